/- What was caught is told. -/
import Derived.Test.YtifldnkcheobhaaDoorAsC
import Derived.Test.YtifldnkcheobhaaDoorCaG
namespace Go.Proofs.YtifldnkcheobhaaDoor
open Go.RowKit Go.Extern.Stop Go.Stop
set_option maxRecDepth 100000
set_option linter.unusedVariables false
set_option linter.unusedSimpArgs false
set_option maxHeartbeats 4000000

theorem asF_hit (w0 w : World) (e : Addr) (tb : Nat) (ht : BlkL w tb [.pointer none]) (hg : Glb w0 w) :
    Calls Tryd.prog 44 #[.iface 113 (.pointer (some e)), .iface 115 (.pointer (some ⟨tb, 0, none⟩))] w fun r w' => r = .returned (.bool true) ∧ BlkL w' tb [.pointer (some e)] ∧ Off [tb] w w' := by
  refine (As_F w0 w 113 (.pointer (some e)) tb ht hg true (fun W w' => BlkL w' tb [.pointer (some e)] ∧ Off [tb] W w') ?_).mono ?_
  · intro W b hW hb hne
    exact as_hitF W e b tb (.pointer none) hb (ht.off hW (by simp)) hne
  · rintro r w' ⟨rfl, W, h1, h2, h3⟩
    exact ⟨rfl, h2, (h1.mono (by simp)).trans h3⟩
theorem asF_crash (w0 w : World) (c tb : Nat) (k : Int) (met : Value) (ht : BlkL w tb [.pointer none]) (hg : Glb w0 w) (hm : MetOk met) (hc : BlkL w c [.int .u8 k, met]) :
    Calls Tryd.prog 44 #[.iface 118 (.pointer (some ⟨c, 0, none⟩)), .iface 115 (.pointer (some ⟨tb, 0, none⟩))] w fun r w' => r = .returned (.bool false) ∧ Off [] w w' := by
  refine (As_F w0 w 118 (.pointer (some ⟨c, 0, none⟩)) tb ht hg false (fun W w' => Off [] W w') ?_).mono ?_
  · intro W b hW hb hne
    exact as_crashF W c k met _ b hm (hc.off hW (by simp))
  · rintro r w' ⟨rfl, W, h1, h2⟩
    exact ⟨rfl, h1.trans h2⟩
theorem asC_hit (w0 w : World) (e : Addr) (tb : Nat) (ht : BlkL w tb [.pointer none]) (hg : Glb w0 w) :
    Calls Tryd.prog 44 #[.iface 118 (.pointer (some e)), .iface 119 (.pointer (some ⟨tb, 0, none⟩))] w fun r w' => r = .returned (.bool true) ∧ BlkL w' tb [.pointer (some e)] ∧ Off [tb] w w' := by
  refine (As_C w0 w 118 (.pointer (some e)) tb ht hg true (fun W w' => BlkL w' tb [.pointer (some e)] ∧ Off [tb] W w') ?_).mono ?_
  · intro W b hW hb hne
    exact as_hitC W e b tb (.pointer none) hb (ht.off hW (by simp)) hne
  · rintro r w' ⟨rfl, W, h1, h2, h3⟩
    exact ⟨rfl, h2, (h1.mono (by simp)).trans h3⟩
/-- A result that lies in a cell. -/
theorem results_telle (tmps : Array Value) (w : World) (b : Nat) (x0 x1 : Value) (h2 : tmps[2]? = some (.pointer (some ⟨b, 0, none⟩))) (hb : BlkL w b [x0, x1]) :
    (results Tryd.f38 tmps).run Tryd.prog w = .ok (.agg #[x0, x1]) w := by
  have z0 := hb.cell 0 _ rfl
  have z1 := hb.cell 1 _ rfl
  simp [results, Tryd.results38, go_sem, h2, z0, z1]
theorem results_tell (tmps : Array Value) (w : World) (b : Nat) (x0 x1 : Value) (h2 : tmps[2]? = some (.pointer (some ⟨b, 0, none⟩))) (hb : BlkL w b [x0, x1]) :
    (results Tryd.f26 tmps).run Tryd.prog w = .ok (.agg #[x0, x1]) w := by
  have z0 := hb.cell 0 _ rfl
  have z1 := hb.cell 1 _ rfl
  simp [results, Tryd.results26, go_sem, h2, z0, z1]
theorem off_put2 {w w' : World} {b : Nat} (h : Off [] w w') (hb : w.heap.size ≤ b) (v0 v1 : Value) : Off [] w ((w'.setCell ⟨b, 0, none⟩ v0).setCell ⟨b, 1, none⟩ v1) :=
  (h.setNew (p := ⟨b, 0, none⟩) hb v0).setNew (p := ⟨b, 1, none⟩) hb v1
/-- tellError of a failure. -/
theorem tellError_err (w0 w : World) (b : Nat) (n : Int) (hg : Glb w0 w) (hb : BlkL w b [.int .i64 n]) :
    Calls Tryd.prog 38 #[.iface 113 (.pointer (some ⟨b, 0, none⟩))] w fun e w' => e = .returned (.agg #[.int .u8 13, .int .i64 n]) ∧ Off [] w w' := by
  have ho1 : Off [] w ((w.alloc (.cells #[.int .u8 0, .int .i64 0] 26)).alloc (.cells #[.pointer none] 113)) := ((Off.refl _ w).alloc _).alloc _
  have hE := (BlkL.new w [.int .u8 0, .int .i64 0] 26).alloc (.cells #[.pointer none] 113)
  have hT := BlkL.new (w.alloc (.cells #[.int .u8 0, .int .i64 0] 26)) [.pointer none] 113
  rw [show (w.alloc (.cells #[.int .u8 0, .int .i64 0] 26)).heap.size = w.heap.size + 1 by simp] at hT
  have HA := Lib.hid (asF_hit w0 _ ⟨b, 0, none⟩ (w.heap.size + 1) hT (hg.off ho1))
  have HO := Lib.hid ho1
  have HE := Lib.hid hE
  have HB := Lib.hid (hb.off ho1 (by simp))
  have hbl := hb.lt
  clear hg hb ho1 hE hT
  go_enter Tryd.func38, Tryd.ntmps38
  go_wp2_with fail
  with_reducible refine HA.out.mono ?_
  rintro e w2 ⟨rfl, ht, hf⟩
  have t0 := ht.cell 0 _ rfl
  have hb2 := HB.out.off hf (by simp; omega)
  have b0 := hb2.cell 0 _ rfl
  have hE2 := HE.out.off hf (by simp)
  have e0 := hE2.cell 0 _ rfl
  have e1 := hE2.cell 1 _ rfl
  have f0 := hE2.froz 0 (by simp)
  have f1 := hE2.froz 1 (by simp)
  have el := hE2.lt
  have HE2 := Lib.hid hE2
  have HO2 : Hid (Off [] w w2) := Lib.hid (Off.of_below ((Off.below (S := []) HO.out (Nat.le_refl _) (by simp)).trans (hf.below (by simp <;> omega) (by simp <;> omega))))
  clear ht hb2 hE2 hf
  go_wp2
  exact bodyPost_ret (v := .agg #[.int .u8 13, .int .i64 n]) (results_telle _ _ w.heap.size _ _ rfl ((HE2.out.set 0 (.int .u8 13) (by simp)).set 1 (.int .i64 n) (by simp))) rfl ⟨rfl, off_put2 HO2.out (Nat.le_refl _) _ _⟩
/-- tellError of a crash. -/
theorem tellError_crash (w0 w : World) (b k : Nat) (met : Value) (hg : Glb w0 w) (hb : BlkL w b [.int .u8 (k : Int), met]) (hm : MetOk met) :
    Calls Tryd.prog 38 #[.iface 118 (.pointer (some ⟨b, 0, none⟩))] w fun e w' => e = .returned (.agg #[.int .u8 (k : Int), .int .i64 0]) ∧ Off [] w w' := by
  have ho1 : Off [] w ((w.alloc (.cells #[.int .u8 0, .int .i64 0] 26)).alloc (.cells #[.pointer none] 113)) := ((Off.refl _ w).alloc _).alloc _
  have hE := (BlkL.new w [.int .u8 0, .int .i64 0] 26).alloc (.cells #[.pointer none] 113)
  have hT := BlkL.new (w.alloc (.cells #[.int .u8 0, .int .i64 0] 26)) [.pointer none] 113
  rw [show (w.alloc (.cells #[.int .u8 0, .int .i64 0] 26)).heap.size = w.heap.size + 1 by simp] at hT
  have HA := Lib.hid (asF_crash w0 _ b (w.heap.size + 1) (k : Int) met hT (hg.off ho1) hm (hb.off ho1 (by simp)))
  have HO := Lib.hid ho1
  have HE := Lib.hid hE
  have HB := Lib.hid (hb.off ho1 (by simp))
  have HG := Lib.hid hg
  have hbl := hb.lt
  clear hg hb ho1 hE hT
  go_enter Tryd.func38, Tryd.ntmps38
  go_wp2_with fail
  with_reducible refine HA.out.mono ?_
  rintro e w2 ⟨rfl, hf⟩
  have ho2 : Off [] w w2 := HO.out.trans hf
  have ho3 : Off [] w (w2.alloc (.cells #[.pointer none] 118)) := ho2.alloc _
  have hw2 := ho2.size
  have hE2 := (HE.out.off hf (by simp)).alloc (.cells #[.pointer none] 118)
  have hB2 := (HB.out.off hf (by simp)).alloc (.cells #[.pointer none] 118)
  have hT2 := BlkL.new w2 [.pointer none] 118
  have HA2 := Lib.hid (asC_hit w0 _ ⟨b, 0, none⟩ w2.heap.size hT2 (HG.out.off ho3))
  have HO3 := Lib.hid ho3
  have HE3 := Lib.hid hE2
  have HB3 := Lib.hid hB2
  have hwl : w.heap.size < w2.heap.size := (HE.out.off hf (by simp)).lt
  clear hE2 hB2 hT2 ho2 ho3 hf
  go_wp2_with fail
  with_reducible refine HA2.out.mono ?_
  rintro e w4 ⟨rfl, ht, hf⟩
  have t0 := ht.cell 0 _ rfl
  have hb2 := HB3.out.off hf (by simp; omega)
  have b0 := hb2.cell 0 _ rfl
  have hE2 := HE3.out.off hf (by simp; omega)
  have e0 := hE2.cell 0 _ rfl
  have e1 := hE2.cell 1 _ rfl
  have f0 := hE2.froz 0 (by simp)
  have f1 := hE2.froz 1 (by simp)
  have el := hE2.lt
  have HE2 := Lib.hid hE2
  have HO2 : Hid (Off [] w w4) := Lib.hid (Off.of_below ((Off.below (S := []) HO3.out (Nat.le_refl _) (by simp)).trans (hf.below (by simp; omega) (by simp; omega))))
  clear ht hb2 hE2 hf
  go_wp2
  exact bodyPost_ret (v := .agg #[.int .u8 (k : Int), .int .i64 0]) (results_telle _ _ w.heap.size _ _ rfl ((HE2.out.set 0 (.int .u8 (k : Int)) (by simp)).set 1 (.int .i64 0) (by simp))) rfl ⟨rfl, off_put2 HO2.out (Nat.le_refl _) _ _⟩
theorem ta_nil (w : World) : (Instr.typeAssert .nilIface 20 3 true).run Tryd.prog w = .ok (.tuple #[.int .i64 0, .bool false]) w ∧ (Instr.typeAssert .nilIface 20 9 true).run Tryd.prog w = .ok (.tuple #[.string ⟨#[]⟩, .bool false]) w ∧ (Instr.typeAssert .nilIface 20 101 true).run Tryd.prog w = .ok (.tuple #[.nilIface, .bool false]) w :=
  ⟨by kernel_rfl, by kernel_rfl, by kernel_rfl⟩
theorem ta_int (x : Value) (w : World) : (Instr.typeAssert (.iface 3 x) 20 3 true).run Tryd.prog w = .ok (.tuple #[x, .bool true]) w := by kernel_rfl
theorem ta_str (x : Value) (w : World) : (Instr.typeAssert (.iface 9 x) 20 3 true).run Tryd.prog w = .ok (.tuple #[.int .i64 0, .bool false]) w ∧ (Instr.typeAssert (.iface 9 x) 20 9 true).run Tryd.prog w = .ok (.tuple #[x, .bool true]) w :=
  ⟨by kernel_rfl, by kernel_rfl⟩
theorem ta_err {T : TypeId} (hT : T = 113 ∨ T = 118) (x : Value) (w : World) : (Instr.typeAssert (.iface T x) 20 3 true).run Tryd.prog w = .ok (.tuple #[.int .i64 0, .bool false]) w ∧ (Instr.typeAssert (.iface T x) 20 9 true).run Tryd.prog w = .ok (.tuple #[.string ⟨#[]⟩, .bool false]) w ∧ (Instr.typeAssert (.iface T x) 20 101 true).run Tryd.prog w = .ok (.tuple #[.iface T x, .bool true]) w := by
  rcases hT with rfl | rfl <;> exact ⟨by kernel_rfl, by kernel_rfl, run_typeAssert_hasB Tryd.underlying101 (by kernel_rfl) x 20 w⟩
theorem tell_any (w0 : World) : TellC w0 := by
  intro w v c hg hc
  have hE := BlkL.new w [.int .u8 0, .int .i64 0] 26
  have hO : Off [] w (w.alloc (.cells #[.int .u8 0, .int .i64 0] 26)) := (Off.refl _ w).alloc _
  have HE := Lib.hid hE
  have HO := Lib.hid hO
  have e0 := hE.cell 0 _ rfl
  have e1 := hE.cell 1 _ rfl
  have f0 := hE.froz 0 (by simp)
  have f1 := hE.froz 1 (by simp)
  have hg1 := hg.off hO
  clear hE hO
  cases hc with
  | none =>
    have q1 := fun w => (ta_nil w).1
    have q2 := fun w => (ta_nil w).2.1
    have q3 := fun w => (ta_nil w).2.2
    clear hg hg1
    go_enter Tryd.func26, Tryd.ntmps26
    go_wp2
    exact bodyPost_ret (v := .agg #[.int .u8 0, .int .i64 0]) (results_tell _ _ w.heap.size _ _ rfl (BlkL.new w [.int .u8 0, .int .i64 0] 26)) rfl ⟨rfl, HO.out⟩
  | int n hn =>
    have q1 := ta_int (.int .i64 n)
    clear hg hg1
    go_enter Tryd.func26, Tryd.ntmps26
    go_wp2
    exact bodyPost_ret (v := .agg #[.int .u8 11, .int .i64 n]) (results_tell _ _ w.heap.size _ _ rfl (BlkL.new w [.int .u8 11, .int .i64 n] 26)) rfl ⟨rfl, (Off.refl _ w).alloc _⟩
  | text st n hn =>
    have q1 := fun w => (ta_str (.string st) w).1
    have q2 := fun w => (ta_str (.string st) w).2
    have HN := Lib.hid (hn _ hg1)
    clear hg hg1 hn
    go_enter Tryd.func26, Tryd.ntmps26
    go_wp2_with fail
    with_reducible refine HN.out.mono ?_
    rintro e w2 ⟨rfl, hf⟩
    have hE2 := HE.out.off hf (by simp)
    have HE2 := Lib.hid hE2
    have HO2 := Lib.hid (HO.out.trans hf)
    have e0 := hE2.cell 0 _ rfl
    have e1 := hE2.cell 1 _ rfl
    have f0 := hE2.froz 0 (by simp)
    have f1 := hE2.froz 1 (by simp)
    have el := hE2.lt
    clear hE2 hf
    go_wp2
    exact bodyPost_ret (v := .agg #[.int .u8 12, .int .i64 n]) (results_tell _ _ w.heap.size _ _ rfl ((HE2.out.set 0 (.int .u8 12) (by simp)).set 1 (.int .i64 n) (by simp))) rfl ⟨rfl, off_put2 HO2.out (Nat.le_refl _) _ _⟩
  | err b n hb =>
    have q1 := fun w => (ta_err (Or.inl rfl) (.pointer (some ⟨b, 0, none⟩)) w).1
    have q2 := fun w => (ta_err (Or.inl rfl) (.pointer (some ⟨b, 0, none⟩)) w).2.1
    have q3 := fun w => (ta_err (Or.inl rfl) (.pointer (some ⟨b, 0, none⟩)) w).2.2
    have HN := Lib.hid (tellError_err w0 _ b n hg1 (hb.off HO.out (by simp)))
    clear hg hg1 hb
    go_enter Tryd.func26, Tryd.ntmps26
    go_wp2_with fail
    with_reducible refine HN.out.mono ?_
    rintro e w2 ⟨rfl, hf⟩
    have hE2 := HE.out.off hf (by simp)
    have HE2 := Lib.hid hE2
    have HO2 := Lib.hid (HO.out.trans hf)
    have e0 := hE2.cell 0 _ rfl
    have e1 := hE2.cell 1 _ rfl
    have f0 := hE2.froz 0 (by simp)
    have f1 := hE2.froz 1 (by simp)
    have el := hE2.lt
    clear hE2 hf
    go_wp2
    exact bodyPost_ret (v := .agg #[.int .u8 13, .int .i64 n]) (results_tell _ _ w.heap.size _ _ rfl ((HE2.out.set 0 (.int .u8 13) (by simp)).set 1 (.int .i64 n) (by simp))) rfl ⟨rfl, off_put2 HO2.out (Nat.le_refl _) _ _⟩
  | crash b k met hb hm hk =>
    have q1 := fun w => (ta_err (Or.inr rfl) (.pointer (some ⟨b, 0, none⟩)) w).1
    have q2 := fun w => (ta_err (Or.inr rfl) (.pointer (some ⟨b, 0, none⟩)) w).2.1
    have q3 := fun w => (ta_err (Or.inr rfl) (.pointer (some ⟨b, 0, none⟩)) w).2.2
    have HN := Lib.hid (tellError_crash w0 _ b k met hg1 (hb.off HO.out (by simp)) hm)
    clear hg hg1 hb
    go_enter Tryd.func26, Tryd.ntmps26
    go_wp2_with fail
    with_reducible refine HN.out.mono ?_
    rintro e w2 ⟨rfl, hf⟩
    have hE2 := HE.out.off hf (by simp)
    have HE2 := Lib.hid hE2
    have HO2 := Lib.hid (HO.out.trans hf)
    have e0 := hE2.cell 0 _ rfl
    have e1 := hE2.cell 1 _ rfl
    have f0 := hE2.froz 0 (by simp)
    have f1 := hE2.froz 1 (by simp)
    have el := hE2.lt
    clear hE2 hf
    go_wp2
    exact bodyPost_ret (v := .agg #[.int .u8 (k : Int), .int .i64 0]) (results_tell _ _ w.heap.size _ _ rfl ((HE2.out.set 0 (.int .u8 (k : Int)) (by simp)).set 1 (.int .i64 0) (by simp))) rfl ⟨rfl, off_put2 HO2.out (Nat.le_refl _) _ _⟩
end Go.Proofs.YtifldnkcheobhaaDoor
