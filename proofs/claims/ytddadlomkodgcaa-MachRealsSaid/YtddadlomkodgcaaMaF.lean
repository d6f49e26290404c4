/- Contracts: Start, load, swap, Step, New of count. -/
import Derived.Test.YtddadlomkodgcaaMaE
namespace Go.Proofs.Ytddadlomkodgcaa
open Go.RowKit
set_option maxRecDepth 100000
set_option linter.unusedVariables false

theorem CntS.step {w w' : World} {c b bw limit v k v' k' : Nat} {calls : List CallV} {S : List Nat} {ring : List Value} (h : CntS w c b bw limit v k calls) (hf : Off S w w') (hc : c ∉ S) (hm : MachS w' b bw 1 [v'] 0 k' ring) : CntS w' c b bw limit v' k' calls :=
  ⟨h.blk.off hf hc, h.len, ⟨ring, hm⟩, h.ne, h.ne'⟩
theorem CntS.res {w : World} {c b bw limit v k : Nat} {calls : List CallV} (h : CntS w c b bw limit v k calls) {r : Nat} (hr : r ∉ [c, b, bw]) (v0 v1 v2 : Value) : CntS (((w.setCell ⟨r, 0, none⟩ v0).setCell ⟨r, 1, none⟩ v1).setCell ⟨r, 2, none⟩ v2) c b bw limit v k calls := by
  simp only [List.mem_cons, List.not_mem_nil, or_false, not_or] at hr
  exact h.off (S := [r]) ((((Off.refl _ w).setCell (by simp) _).setCell (by simp) _).setCell (by simp) _) (by simpa using Ne.symm hr.1) (by simpa using Ne.symm hr.2.1) (by simpa using Ne.symm hr.2.2)
theorem Off.res {w w' : World} {S : List Nat} (h : Off S w w') {r : Nat} (hr : w.heap.size ≤ r) (v0 v1 v2 : Value) : Off S w (((w'.setCell ⟨r, 0, none⟩ v0).setCell ⟨r, 1, none⟩ v1).setCell ⟨r, 2, none⟩ v2) :=
  ((h.setNew hr _).setNew hr _).setNew hr _
/-- A result as a value. -/
abbrev resV (d : Bool) (e n : Int) : Value := .agg #[.bool d, .int .i64 e, .int .i64 n]

section
variable (w : World) (c b bw limit v k : Nat) (calls : List CallV)
theorem load0 (v k : Nat) (clk : Int) (r : List Value) (h : MachS w b bw 1 [v] clk k r) (hk : k < 9223372036854775807) (who : Int) (h1 : inB who 64 = true) :
    Calls Try.prog 16 #[.pointer (some ⟨b, 0, none⟩), .int .i64 who, .int .i64 0] w fun e w' => e = .returned (.tuple #[.int .u64 (v : Int), .int .i64 0]) ∧ (∃ ring, MachS w' b bw 1 [v] clk (k + 1) ring) ∧ Off [b] w w' :=
  (load_ok w b bw 1 [v] clk k r h hk who 0 h1 (by omega)).mono fun e w' ⟨h1, h2, h3⟩ => ⟨h1, ⟨_, h2⟩, h3⟩
theorem swap0 (v k : Nat) (clk : Int) (r : List Value) (h : MachS w b bw 1 [v] clk k r) (hk : k < 9223372036854775807) (who : Int) (old new : Nat) (h1 : inB who 64 = true) :
    Calls Try.prog 17 #[.pointer (some ⟨b, 0, none⟩), .int .i64 who, .int .i64 0, .int .u64 (old : Int), .int .u64 (new : Int)] w fun e w' => e = .returned (.tuple #[.bool (decide (v = old)), .int .i64 0]) ∧ (∃ ring, MachS w' b bw 1 [if v = old then new else v] clk (k + 1) ring) ∧ Off [b, bw] w w' := by
  refine (swap_ok w b bw 1 [v] clk k r h hk who 0 old new h1 (by omega)).mono ?_
  rintro e w' ⟨h1, h2, h3⟩
  have e2 : (if [v].getD 0 0 = old then [v].set 0 new else [v]) = [if v = old then new else v] := by
    show (if v = old then [new] else [v]) = _
    split <;> rfl
  rw [e2] at h2
  exact ⟨h1, ⟨_, h2⟩, h3⟩

theorem start_nil (who : Int) (op : Nat) (hw : inB who 64 = true) (h1 : 1 ≤ op) (h3 : op ≤ 3) :
    Calls Try.prog 27 #[.pointer none, .int .i64 who, .int .u8 (op : Int)] w fun e w' => e = .returned (.int .i64 7) ∧ w = w' := by
  have HW := Lib.hid (cWho_any w who)
  rw [hw] at HW
  have d1 : ¬ (op : Int) < 1 := by omega
  have d3 : ¬ (3 : Int) < (op : Int) := by omega
  clear hw
  go_enter Try.func27, Try.ntmps27
  go_wp2_with fail
  with_reducible refine HW.out.mono ?_
  rintro e w1 ⟨rfl, hw⟩
  subst hw
  go_wp2
  go_ret
  exact ⟨rfl, rfl⟩
theorem start_bad (p : Value) (who : Int) (op : Nat) (hb : inB who 64 = false ∨ op < 1 ∨ 3 < op) :
    Calls Try.prog 27 #[p, .int .i64 who, .int .u8 (op : Int)] w fun e w' => e = .returned (.int .i64 1) ∧ w = w' := by
  have HW := Lib.hid (cWho_any w who)
  rcases h1 : inB who 64 with _ | _
  · rw [h1] at HW
    clear hb h1
    go_enter Try.func27, Try.ntmps27
    go_wp2_with fail
    with_reducible refine HW.out.mono ?_
    rintro e w1 ⟨rfl, hw⟩
    subst hw
    go_wp2
    go_ret
    exact ⟨rfl, rfl⟩
  · rw [h1] at HW hb
    rcases Nat.lt_or_ge op 1 with h2 | h2
    · have d1 : (op : Int) < 1 := by omega
      clear hb h1
      go_enter Try.func27, Try.ntmps27
      go_wp2_with fail
      with_reducible refine HW.out.mono ?_
      rintro e w1 ⟨rfl, hw⟩
      subst hw
      go_wp2
      go_ret
      exact ⟨rfl, rfl⟩
    · have h3 : 3 < op := by
        rcases hb with h | h | h
        · cases h
        · omega
        · exact h
      have d1 : ¬ (op : Int) < 1 := by omega
      have d3 : (3 : Int) < (op : Int) := by omega
      clear hb h1
      go_enter Try.func27, Try.ntmps27
      go_wp2_with fail
      with_reducible refine HW.out.mono ?_
      rintro e w1 ⟨rfl, hw⟩
      subst hw
      go_wp2
      go_ret
      exact ⟨rfl, rfl⟩
theorem start_busy (h : CntS w c b bw limit v k calls) (i : Nat) (hi : i < 64) (op : Nat) (h1 : 1 ≤ op) (h3 : op ≤ 3) (hx : (calls.getD i noCall).op ≠ 0) :
    Calls Try.prog 27 #[.pointer (some ⟨c, 0, none⟩), .int .i64 (i : Int), .int .u8 (op : Int)] w fun e w' => e = .returned (.int .i64 9) ∧ w = w' := by
  have HW := Lib.hid (cWho_any w i)
  rw [inB_iff.mpr (by omega)] at HW
  have HP := Lib.hid (pend_at w c b bw limit v k calls h i hi _ rfl)
  rw [decide_eq_true hx] at HP
  have d1 : ¬ (op : Int) < 1 := by omega
  have d3 : ¬ (3 : Int) < (op : Int) := by omega
  clear h hx
  go_enter Try.func27, Try.ntmps27
  go_wp2_with fail
  with_reducible refine HW.out.mono ?_
  rintro e w1 ⟨rfl, hw⟩
  subst hw
  go_wp2_with fail
  with_reducible refine HP.out.mono ?_
  rintro e w1 ⟨rfl, hw⟩
  subst hw
  go_wp2
  go_ret
  exact ⟨rfl, rfl⟩
set_option maxHeartbeats 800000 in
theorem start_ok (h : CntS w c b bw limit v k calls) (i : Nat) (hi : i < 64) (op : Nat) (h1 : 1 ≤ op) (h3 : op ≤ 3) (hx : (calls.getD i noCall).op = 0) :
    Calls Try.prog 27 #[.pointer (some ⟨c, 0, none⟩), .int .i64 (i : Int), .int .u8 (op : Int)] w fun e w' => e = .returned (.int .i64 0) ∧
      CntS w' c b bw limit v k (calls.set i ⟨op, false, 0⟩) ∧ Off [c, b, bw] w w' := by
  have HW := Lib.hid (cWho_any w i)
  rw [inB_iff.mpr (by omega)] at HW
  have HP := Lib.hid (pend_at w c b bw limit v k calls h i hi _ rfl)
  rw [decide_eq_false (fun hn => hn hx)] at HP
  have d1 : ¬ (op : Int) < 1 := by omega
  have d3 : ¬ (3 : Int) < (op : Int) := by omega
  have c0 := h.op hi
  have c1 := h.ld hi
  have c2 := h.old hi
  have f0 := h.f (i := 2 + i * 3) (by omega)
  have f1 := h.f (i := 2 + i * 3 + 1) (by omega)
  have f2 := h.f (i := 2 + i * 3 + 2) (by omega)
  have hlt := h.blk.lt
  have H := Lib.hid (h.put hi ⟨op, false, 0⟩)
  have HO := Lib.hid (CntS.put_off (w := w) (c := c) (b := b) (bw := bw) i (.int .u8 (op : Int)) (.bool false) (.int .u64 0))
  clear h hx
  go_enter Try.func27, Try.ntmps27
  go_wp2_with fail
  with_reducible refine HW.out.mono ?_
  rintro e w1 ⟨rfl, hw⟩
  subst hw
  go_wp2_with fail
  with_reducible refine HP.out.mono ?_
  rintro e w1 ⟨rfl, hw⟩
  subst hw
  go_wp2
  go_ret
  exact ⟨rfl, H.out, HO.out⟩

set_option maxHeartbeats 1600000 in
theorem cload_read (h : CntS w c b bw limit v k calls) (hk : k < 9223372036854775807) (hv : v ≤ limit) (hl : limit ≤ 4611686018427387903) (i : Nat) (hi : i < 64) (hop : (calls.getD i noCall).op = 3) :
    Calls Try.prog 58 #[.pointer (some ⟨c, 0, none⟩), .int .i64 (i : Int)] w fun x w' => x = .returned (.tuple #[resV true 0 (v : Int), .int .i64 0]) ∧ CntS w' c b bw limit v (k + 1) (calls.set i noCall) ∧ Off [c, b, bw] w w' := by
  have h0 := h.alloc (.cells #[.bool false, .int .i64 0, .int .i64 0] 71)
  have kr := BlkL.new w [.bool false, .int .i64 0, .int .i64 0] 71
  obtain ⟨r, hm⟩ := h0.m
  have HL := Lib.hid (load0 _ b bw v k 0 r hm hk i (inB_iff.mpr (by omega)))
  have hcl := h.blk.lt
  obtain ⟨r9, hm9⟩ := h.m
  have hbl := hm9.blk.lt
  have hbwl := hm9.wd.lt
  have c1 := h.c1
  have HC := Lib.hid h0
  have KR := Lib.hid kr
  have hne : c ∉ [b] := by simpa using h.ne
  have hnr : w.heap.size ∉ [b] := by simp; omega
  have hnr3 : w.heap.size ∉ [c, b, bw] := by simp; omega
  clear h h0 hm kr hm9
  go_enter Try.func58, Try.ntmps58
  go_wp2_with fail
  with_reducible refine HL.out.mono ?_
  rintro e w1 ⟨rfl, ⟨r1, hm1⟩, hf⟩
  have h1 := HC.out.step hf hne hm1
  have HF1 := Lib.hid (((Off.refl [c, b, bw] w).alloc (.cells #[.bool false, .int .i64 0, .int .i64 0] 71)).trans (hf.mono (by simp)))
  have k1 := KR.out.off hf hnr
  have d0 := h1.c0
  have d2 := h1.op hi
  have hlt1 := h1.blk.lt
  have klt := k1.lt
  rw [hop] at d2
  clear hm1 hf

  have HFI := Lib.hid (finish_any w1 c b bw limit v (k + 1) calls h1 i hi true 0 (v : Int))
  have K1 := Lib.hid k1
  clear h1 k1
  go_wp2_with fail
  with_reducible refine HFI.out.mono ?_
  rintro e w2 ⟨rfl, hc2, hf2⟩
  have k2 := K1.out.off hf2 hnr3
  have m0 := k2.cell 0 _ rfl
  have m1 := k2.cell 1 _ rfl
  have m2 := k2.cell 2 _ rfl
  have g0 := k2.froz 0 (by simp)
  have g1 := k2.froz 1 (by simp)
  have g2 := k2.froz 2 (by simp)
  have hf3 := Lib.hid (HF1.out.trans hf2)
  have HC2 := Lib.hid hc2
  have n0 := (k2.set 0 (.bool true) (by simp)).cell 0 _ rfl
  have n1 := ((k2.set 0 (.bool true) (by simp)).set 1 (.int .i64 0) (by simp)).cell 1 _ rfl
  have n2 := (((k2.set 0 (.bool true) (by simp)).set 1 (.int .i64 0) (by simp)).set 2 (.int .i64 (v : Int)) (by simp)).cell 2 _ rfl
  have N0 := Lib.hid n0
  have N1 := Lib.hid n1
  have N2 := Lib.hid n2
  clear n0 n1 n2
  clear k2 hf2 hc2
  go_wp2
  refine bodyPost_ret (v := .tuple #[resV true 0 (v : Int), .int .i64 0]) (by simp [results, Try.results58, go_sem, N0.out, N1.out, N2.out]) rfl ⟨rfl, HC2.out.res hnr3 _ _ _, hf3.out.res (Nat.le_refl _) _ _ _⟩

set_option maxHeartbeats 1600000 in
theorem cload_full (h : CntS w c b bw limit v k calls) (hk : k < 9223372036854775807) (hv : v ≤ limit) (hl : limit ≤ 4611686018427387903) (i : Nat) (hi : i < 64) (hop : (calls.getD i noCall).op = 1) (hvl : v = limit) :
    Calls Try.prog 58 #[.pointer (some ⟨c, 0, none⟩), .int .i64 (i : Int)] w fun x w' => x = .returned (.tuple #[resV true 10 0, .int .i64 0]) ∧ CntS w' c b bw limit v (k + 1) (calls.set i noCall) ∧ Off [c, b, bw] w w' := by
  have h0 := h.alloc (.cells #[.bool false, .int .i64 0, .int .i64 0] 71)
  have kr := BlkL.new w [.bool false, .int .i64 0, .int .i64 0] 71
  obtain ⟨r, hm⟩ := h0.m
  have HL := Lib.hid (load0 _ b bw v k 0 r hm hk i (inB_iff.mpr (by omega)))
  have hcl := h.blk.lt
  obtain ⟨r9, hm9⟩ := h.m
  have hbl := hm9.blk.lt
  have hbwl := hm9.wd.lt
  have c1 := h.c1
  have HC := Lib.hid h0
  have KR := Lib.hid kr
  have hne : c ∉ [b] := by simpa using h.ne
  have hnr : w.heap.size ∉ [b] := by simp; omega
  have hnr3 : w.heap.size ∉ [c, b, bw] := by simp; omega
  have q1 : (v : Int) = (limit : Int) := by omega
  clear h h0 hm kr hm9
  go_enter Try.func58, Try.ntmps58
  go_wp2_with fail
  with_reducible refine HL.out.mono ?_
  rintro e w1 ⟨rfl, ⟨r1, hm1⟩, hf⟩
  have h1 := HC.out.step hf hne hm1
  have HF1 := Lib.hid (((Off.refl [c, b, bw] w).alloc (.cells #[.bool false, .int .i64 0, .int .i64 0] 71)).trans (hf.mono (by simp)))
  have k1 := KR.out.off hf hnr
  have d0 := h1.c0
  have d2 := h1.op hi
  have hlt1 := h1.blk.lt
  have klt := k1.lt
  rw [hop] at d2
  clear hm1 hf

  have HFI := Lib.hid (finish_any w1 c b bw limit v (k + 1) calls h1 i hi true 10 0)
  have K1 := Lib.hid k1
  clear h1 k1
  go_wp2_with fail
  with_reducible refine HFI.out.mono ?_
  rintro e w2 ⟨rfl, hc2, hf2⟩
  have k2 := K1.out.off hf2 hnr3
  have m0 := k2.cell 0 _ rfl
  have m1 := k2.cell 1 _ rfl
  have m2 := k2.cell 2 _ rfl
  have g0 := k2.froz 0 (by simp)
  have g1 := k2.froz 1 (by simp)
  have g2 := k2.froz 2 (by simp)
  have hf3 := Lib.hid (HF1.out.trans hf2)
  have HC2 := Lib.hid hc2
  have n0 := (k2.set 0 (.bool true) (by simp)).cell 0 _ rfl
  have n1 := ((k2.set 0 (.bool true) (by simp)).set 1 (.int .i64 10) (by simp)).cell 1 _ rfl
  have n2 := (((k2.set 0 (.bool true) (by simp)).set 1 (.int .i64 10) (by simp)).set 2 (.int .i64 0) (by simp)).cell 2 _ rfl
  have N0 := Lib.hid n0
  have N1 := Lib.hid n1
  have N2 := Lib.hid n2
  clear n0 n1 n2
  clear k2 hf2 hc2
  go_wp2
  refine bodyPost_ret (v := .tuple #[resV true 10 0, .int .i64 0]) (by simp [results, Try.results58, go_sem, N0.out, N1.out, N2.out]) rfl ⟨rfl, HC2.out.res hnr3 _ _ _, hf3.out.res (Nat.le_refl _) _ _ _⟩

set_option maxHeartbeats 1600000 in
theorem cload_range (h : CntS w c b bw limit v k calls) (hk : k < 9223372036854775807) (hv : v ≤ limit) (hl : limit ≤ 4611686018427387903) (i : Nat) (hi : i < 64) (hop : (calls.getD i noCall).op = 2) (hvl : v = 0) :
    Calls Try.prog 58 #[.pointer (some ⟨c, 0, none⟩), .int .i64 (i : Int)] w fun x w' => x = .returned (.tuple #[resV true 5 0, .int .i64 0]) ∧ CntS w' c b bw limit v (k + 1) (calls.set i noCall) ∧ Off [c, b, bw] w w' := by
  have h0 := h.alloc (.cells #[.bool false, .int .i64 0, .int .i64 0] 71)
  have kr := BlkL.new w [.bool false, .int .i64 0, .int .i64 0] 71
  obtain ⟨r, hm⟩ := h0.m
  have HL := Lib.hid (load0 _ b bw v k 0 r hm hk i (inB_iff.mpr (by omega)))
  have hcl := h.blk.lt
  obtain ⟨r9, hm9⟩ := h.m
  have hbl := hm9.blk.lt
  have hbwl := hm9.wd.lt
  have c1 := h.c1
  have HC := Lib.hid h0
  have KR := Lib.hid kr
  have hne : c ∉ [b] := by simpa using h.ne
  have hnr : w.heap.size ∉ [b] := by simp; omega
  have hnr3 : w.heap.size ∉ [c, b, bw] := by simp; omega
  have q1 : (v : Int) = 0 := by omega
  clear h h0 hm kr hm9
  go_enter Try.func58, Try.ntmps58
  go_wp2_with fail
  with_reducible refine HL.out.mono ?_
  rintro e w1 ⟨rfl, ⟨r1, hm1⟩, hf⟩
  have h1 := HC.out.step hf hne hm1
  have HF1 := Lib.hid (((Off.refl [c, b, bw] w).alloc (.cells #[.bool false, .int .i64 0, .int .i64 0] 71)).trans (hf.mono (by simp)))
  have k1 := KR.out.off hf hnr
  have d0 := h1.c0
  have d2 := h1.op hi
  have hlt1 := h1.blk.lt
  have klt := k1.lt
  rw [hop] at d2
  clear hm1 hf

  have HFI := Lib.hid (finish_any w1 c b bw limit v (k + 1) calls h1 i hi true 5 0)
  have K1 := Lib.hid k1
  clear h1 k1
  go_wp2_with fail
  with_reducible refine HFI.out.mono ?_
  rintro e w2 ⟨rfl, hc2, hf2⟩
  have k2 := K1.out.off hf2 hnr3
  have m0 := k2.cell 0 _ rfl
  have m1 := k2.cell 1 _ rfl
  have m2 := k2.cell 2 _ rfl
  have g0 := k2.froz 0 (by simp)
  have g1 := k2.froz 1 (by simp)
  have g2 := k2.froz 2 (by simp)
  have hf3 := Lib.hid (HF1.out.trans hf2)
  have HC2 := Lib.hid hc2
  have n0 := (k2.set 0 (.bool true) (by simp)).cell 0 _ rfl
  have n1 := ((k2.set 0 (.bool true) (by simp)).set 1 (.int .i64 5) (by simp)).cell 1 _ rfl
  have n2 := (((k2.set 0 (.bool true) (by simp)).set 1 (.int .i64 5) (by simp)).set 2 (.int .i64 0) (by simp)).cell 2 _ rfl
  have N0 := Lib.hid n0
  have N1 := Lib.hid n1
  have N2 := Lib.hid n2
  clear n0 n1 n2
  clear k2 hf2 hc2
  go_wp2
  refine bodyPost_ret (v := .tuple #[resV true 5 0, .int .i64 0]) (by simp [results, Try.results58, go_sem, N0.out, N1.out, N2.out]) rfl ⟨rfl, HC2.out.res hnr3 _ _ _, hf3.out.res (Nat.le_refl _) _ _ _⟩

set_option maxHeartbeats 1600000 in
theorem cload_up (h : CntS w c b bw limit v k calls) (hk : k < 9223372036854775807) (hv : v ≤ limit) (hl : limit ≤ 4611686018427387903) (i : Nat) (hi : i < 64) (hop : (calls.getD i noCall).op = 1) (hvl : v ≠ limit) :
    Calls Try.prog 58 #[.pointer (some ⟨c, 0, none⟩), .int .i64 (i : Int)] w fun x w' => x = .returned (.tuple #[resV false 0 0, .int .i64 0]) ∧ CntS w' c b bw limit v (k + 1) (calls.set i ⟨1, true, v⟩) ∧ Off [c, b, bw] w w' := by
  have h0 := h.alloc (.cells #[.bool false, .int .i64 0, .int .i64 0] 71)
  have kr := BlkL.new w [.bool false, .int .i64 0, .int .i64 0] 71
  obtain ⟨r, hm⟩ := h0.m
  have HL := Lib.hid (load0 _ b bw v k 0 r hm hk i (inB_iff.mpr (by omega)))
  have hcl := h.blk.lt
  obtain ⟨r9, hm9⟩ := h.m
  have hbl := hm9.blk.lt
  have hbwl := hm9.wd.lt
  have c1 := h.c1
  have HC := Lib.hid h0
  have KR := Lib.hid kr
  have hne : c ∉ [b] := by simpa using h.ne
  have hnr : w.heap.size ∉ [b] := by simp; omega
  have hnr3 : w.heap.size ∉ [c, b, bw] := by simp; omega
  have q1 : ¬ (v : Int) = (limit : Int) := by omega
  clear h h0 hm kr hm9
  go_enter Try.func58, Try.ntmps58
  go_wp2_with fail
  with_reducible refine HL.out.mono ?_
  rintro e w1 ⟨rfl, ⟨r1, hm1⟩, hf⟩
  have h1 := HC.out.step hf hne hm1
  have HF1 := Lib.hid (((Off.refl [c, b, bw] w).alloc (.cells #[.bool false, .int .i64 0, .int .i64 0] 71)).trans (hf.mono (by simp)))
  have k1 := KR.out.off hf hnr
  have d0 := h1.c0
  have d2 := h1.op hi
  have hlt1 := h1.blk.lt
  have klt := k1.lt
  rw [hop] at d2
  clear hm1 hf

  have m0 := k1.cell 0 _ rfl
  have m1 := k1.cell 1 _ rfl
  have m2 := k1.cell 2 _ rfl
  have g0 := k1.froz 0 (by simp)
  have g1 := k1.froz 1 (by simp)
  have g2 := k1.froz 2 (by simp)
  have e0 := h1.ld hi
  have e1 := h1.old hi
  have f0 := h1.f (i := 2 + i * 3) (by omega)
  have f1 := h1.f (i := 2 + i * 3 + 1) (by omega)
  have f2 := h1.f (i := 2 + i * 3 + 2) (by omega)
  have H2 : Hid (CntS (((w1.setCell ⟨c, 2 + i * 3, none⟩ (.int .u8 1)).setCell ⟨c, 2 + i * 3 + 1, none⟩ (.bool true)).setCell ⟨c, 2 + i * 3 + 2, none⟩ (.int .u64 (v : Int))) c b bw limit v (k + 1) (calls.set i ⟨1, true, v⟩)) := Lib.hid (h1.put hi ⟨1, true, v⟩)
  have HO := Lib.hid (CntS.put_off (w := w1) (c := c) (b := b) (bw := bw) i (.int .u8 1) (.bool true) (.int .u64 (v : Int)))
  have K1 := Lib.hid k1
  clear h1 k1
  go_wp2
  have hcr : c ≠ w.heap.size := by omega
  have k2 := ((K1.out.other c (2 + i * 3) (.int .u8 1) hcr).other c (2 + i * 3 + 1) (.bool true) hcr).other c (2 + i * 3 + 2) (.int .u64 (v : Int)) hcr
  have n0 := (k2.set 0 (.bool false) (by simp)).cell 0 _ rfl
  have n1 := ((k2.set 0 (.bool false) (by simp)).set 1 (.int .i64 0) (by simp)).cell 1 _ rfl
  have n2 := (((k2.set 0 (.bool false) (by simp)).set 1 (.int .i64 0) (by simp)).set 2 (.int .i64 0) (by simp)).cell 2 _ rfl
  have N0 := Lib.hid n0
  have N1 := Lib.hid n1
  have N2 := Lib.hid n2
  refine bodyPost_ret (v := .tuple #[resV false 0 0, .int .i64 0]) (by simp [results, Try.results58, go_sem, N0.out, N1.out, N2.out]) rfl ⟨rfl, ?_, ?_⟩
  · exact H2.out.res hnr3 _ _ _
  · exact (HF1.out.trans HO.out).res (Nat.le_refl _) _ _ _

set_option maxHeartbeats 1600000 in
theorem cload_down (h : CntS w c b bw limit v k calls) (hk : k < 9223372036854775807) (hv : v ≤ limit) (hl : limit ≤ 4611686018427387903) (i : Nat) (hi : i < 64) (hop : (calls.getD i noCall).op = 2) (hvl : v ≠ 0) :
    Calls Try.prog 58 #[.pointer (some ⟨c, 0, none⟩), .int .i64 (i : Int)] w fun x w' => x = .returned (.tuple #[resV false 0 0, .int .i64 0]) ∧ CntS w' c b bw limit v (k + 1) (calls.set i ⟨2, true, v⟩) ∧ Off [c, b, bw] w w' := by
  have h0 := h.alloc (.cells #[.bool false, .int .i64 0, .int .i64 0] 71)
  have kr := BlkL.new w [.bool false, .int .i64 0, .int .i64 0] 71
  obtain ⟨r, hm⟩ := h0.m
  have HL := Lib.hid (load0 _ b bw v k 0 r hm hk i (inB_iff.mpr (by omega)))
  have hcl := h.blk.lt
  obtain ⟨r9, hm9⟩ := h.m
  have hbl := hm9.blk.lt
  have hbwl := hm9.wd.lt
  have c1 := h.c1
  have HC := Lib.hid h0
  have KR := Lib.hid kr
  have hne : c ∉ [b] := by simpa using h.ne
  have hnr : w.heap.size ∉ [b] := by simp; omega
  have hnr3 : w.heap.size ∉ [c, b, bw] := by simp; omega
  have q1 : ¬ (v : Int) = 0 := by omega
  clear h h0 hm kr hm9
  go_enter Try.func58, Try.ntmps58
  go_wp2_with fail
  with_reducible refine HL.out.mono ?_
  rintro e w1 ⟨rfl, ⟨r1, hm1⟩, hf⟩
  have h1 := HC.out.step hf hne hm1
  have HF1 := Lib.hid (((Off.refl [c, b, bw] w).alloc (.cells #[.bool false, .int .i64 0, .int .i64 0] 71)).trans (hf.mono (by simp)))
  have k1 := KR.out.off hf hnr
  have d0 := h1.c0
  have d2 := h1.op hi
  have hlt1 := h1.blk.lt
  have klt := k1.lt
  rw [hop] at d2
  clear hm1 hf

  have m0 := k1.cell 0 _ rfl
  have m1 := k1.cell 1 _ rfl
  have m2 := k1.cell 2 _ rfl
  have g0 := k1.froz 0 (by simp)
  have g1 := k1.froz 1 (by simp)
  have g2 := k1.froz 2 (by simp)
  have e0 := h1.ld hi
  have e1 := h1.old hi
  have f0 := h1.f (i := 2 + i * 3) (by omega)
  have f1 := h1.f (i := 2 + i * 3 + 1) (by omega)
  have f2 := h1.f (i := 2 + i * 3 + 2) (by omega)
  have H2 : Hid (CntS (((w1.setCell ⟨c, 2 + i * 3, none⟩ (.int .u8 2)).setCell ⟨c, 2 + i * 3 + 1, none⟩ (.bool true)).setCell ⟨c, 2 + i * 3 + 2, none⟩ (.int .u64 (v : Int))) c b bw limit v (k + 1) (calls.set i ⟨2, true, v⟩)) := Lib.hid (h1.put hi ⟨2, true, v⟩)
  have HO := Lib.hid (CntS.put_off (w := w1) (c := c) (b := b) (bw := bw) i (.int .u8 2) (.bool true) (.int .u64 (v : Int)))
  have K1 := Lib.hid k1
  clear h1 k1
  go_wp2
  have hcr : c ≠ w.heap.size := by omega
  have k2 := ((K1.out.other c (2 + i * 3) (.int .u8 2) hcr).other c (2 + i * 3 + 1) (.bool true) hcr).other c (2 + i * 3 + 2) (.int .u64 (v : Int)) hcr
  have n0 := (k2.set 0 (.bool false) (by simp)).cell 0 _ rfl
  have n1 := ((k2.set 0 (.bool false) (by simp)).set 1 (.int .i64 0) (by simp)).cell 1 _ rfl
  have n2 := (((k2.set 0 (.bool false) (by simp)).set 1 (.int .i64 0) (by simp)).set 2 (.int .i64 0) (by simp)).cell 2 _ rfl
  have N0 := Lib.hid n0
  have N1 := Lib.hid n1
  have N2 := Lib.hid n2
  refine bodyPost_ret (v := .tuple #[resV false 0 0, .int .i64 0]) (by simp [results, Try.results58, go_sem, N0.out, N1.out, N2.out]) rfl ⟨rfl, ?_, ?_⟩
  · exact H2.out.res hnr3 _ _ _
  · exact (HF1.out.trans HO.out).res (Nat.le_refl _) _ _ _

end
end Go.Proofs.Ytddadlomkodgcaa
