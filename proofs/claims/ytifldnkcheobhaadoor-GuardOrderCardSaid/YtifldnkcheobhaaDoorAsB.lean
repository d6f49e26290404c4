/- errors.as and errors.As at the targets of cause. -/
import Derived.Test.YtifldnkcheobhaaDoorAsA
namespace Go.Proofs.YtifldnkcheobhaaDoor
open Go.RowKit Go.Extern.Stop Go.Stop Go.Extern
set_option maxRecDepth 100000
set_option linter.unusedVariables false
set_option linter.unusedSimpArgs false
set_option maxHeartbeats 4000000

theorem as_hitF (w : World) (e : Addr) (b tb : Nat) (old : Value) (hb : BlkL w b [.pointer (some ⟨tb, 0, none⟩)]) (ht : BlkL w tb [old]) (hne : b ≠ tb) :
    Calls Tryd.prog 58 #[.iface 113 (.pointer (some e)), .iface 115 (.pointer (some ⟨tb, 0, none⟩)), .agg #[.pointer (some ⟨6, 115, none⟩), .pointer (some ⟨b, 0, none⟩), .int .u64 150], .iface 150 (.agg #[.pointer (some ⟨6, 113, none⟩)])] w fun r w' => r = .returned (.bool true) ∧ BlkL w' tb [.pointer (some e)] ∧ Off [tb] w w' := by
  have h66 := @run_callFunc_extern Tryd.prog 66 _ ReflectliteType.typeOf Tryd.func66 (by kernel_rfl) (by kernel_rfl) (by kernel_rfl) (by kernel_rfl)
  have h115 := @run_callFunc_extern Tryd.prog 115 _ (ReflectliteType.relation "AssignableTo" ReflectliteType.assignableTo) Tryd.func115 (by kernel_rfl) (by kernel_rfl) (by kernel_rfl) (by kernel_rfl)
  have h67 := @run_callFunc_extern Tryd.prog 67 _ (ReflectliteValue.method (ReflectliteValue.valueError "reflectlite.Value.Elem" 0) ReflectliteValue.elem) Tryd.func67 (by kernel_rfl) (by kernel_rfl) (by kernel_rfl) (by kernel_rfl)
  have h55 := @run_callFunc_extern Tryd.prog 55 _ (fun args => ReflectliteValue.unpack (args.getD 0 (.tuple #[]))) Tryd.func55 (by kernel_rfl) (by kernel_rfl) (by kernel_rfl) (by kernel_rfl)
  have h68 := @run_callFunc_extern Tryd.prog 68 _ ReflectliteValue.set Tryd.func68 (by kernel_rfl) (by kernel_rfl) (by kernel_rfl) (by kernel_rfl)
  have tO := typeOf_any 113 (.pointer (some e))
  have mA := methodAssignableTo
  have a1 := assignableF
  have v1 := valueOfEF
  have hb1 := hb.alloc (.cells #[.pointer (some ⟨6, 115, none⟩), .pointer (some ⟨b, 0, none⟩), .int .u64 150] 131)
  have el := elemVF b ⟨tb, 0, none⟩ (w.alloc (.cells #[.pointer (some ⟨6, 115, none⟩), .pointer (some ⟨b, 0, none⟩), .int .u64 150] 131)) (hb1.cell 0 _ rfl)
  have ht2 : BlkL ((w.alloc (.cells #[.pointer (some ⟨6, 115, none⟩), .pointer (some ⟨b, 0, none⟩), .int .u64 150] 131)).alloc (.cells #[.pointer (some e)] 113)) tb [old] := (ht.alloc _).alloc _
  have he2 : BlkL ((w.alloc (.cells #[.pointer (some ⟨6, 115, none⟩), .pointer (some ⟨b, 0, none⟩), .int .u64 150] 131)).alloc (.cells #[.pointer (some e)] 113)) (w.heap.size + 1) [.pointer (some e)] := by
    have := BlkL.new (w.alloc (.cells #[.pointer (some ⟨6, 115, none⟩), .pointer (some ⟨b, 0, none⟩), .int .u64 150] 131)) [.pointer (some e)] 113
    rw [show (w.alloc (.cells #[.pointer (some ⟨6, 115, none⟩), .pointer (some ⟨b, 0, none⟩), .int .u64 150] 131)).heap.size = w.heap.size + 1 by simp] at this
    exact this
  have st := setF ⟨tb, 0, none⟩ (w.heap.size + 1) e old ((w.alloc (.cells #[.pointer (some ⟨6, 115, none⟩), .pointer (some ⟨b, 0, none⟩), .int .u64 150] 131)).alloc (.cells #[.pointer (some e)] 113)) (he2.cell 0 _ rfl) (ht2.cell 0 _ rfl) (ht2.froz 0 (by simp))
  have HT2 := Lib.hid ht2
  have HOF : Hid (Off [tb] w ((w.alloc (.cells #[.pointer (some ⟨6, 115, none⟩), .pointer (some ⟨b, 0, none⟩), .int .u64 150] 131)).alloc (.cells #[.pointer (some e)] 113))) := Lib.hid (((Off.refl _ w).alloc _).alloc _)
  clear hb1 ht2 he2 hb ht
  go_enter Tryd.func58, Tryd.ntmps58
  go_wp2
  refine wp_loop_rounds 1 ?_
  rw [rounds_succ]
  go_wp2
  go_ret
  exact ⟨rfl, HT2.out.set 0 _ (by simp), HOF.out.setCell (p := ⟨tb, 0, none⟩) (by simp) _⟩
theorem as_hitC (w : World) (e : Addr) (b tb : Nat) (old : Value) (hb : BlkL w b [.pointer (some ⟨tb, 0, none⟩)]) (ht : BlkL w tb [old]) (hne : b ≠ tb) :
    Calls Tryd.prog 58 #[.iface 118 (.pointer (some e)), .iface 119 (.pointer (some ⟨tb, 0, none⟩)), .agg #[.pointer (some ⟨6, 119, none⟩), .pointer (some ⟨b, 0, none⟩), .int .u64 150], .iface 150 (.agg #[.pointer (some ⟨6, 118, none⟩)])] w fun r w' => r = .returned (.bool true) ∧ BlkL w' tb [.pointer (some e)] ∧ Off [tb] w w' := by
  have h66 := @run_callFunc_extern Tryd.prog 66 _ ReflectliteType.typeOf Tryd.func66 (by kernel_rfl) (by kernel_rfl) (by kernel_rfl) (by kernel_rfl)
  have h115 := @run_callFunc_extern Tryd.prog 115 _ (ReflectliteType.relation "AssignableTo" ReflectliteType.assignableTo) Tryd.func115 (by kernel_rfl) (by kernel_rfl) (by kernel_rfl) (by kernel_rfl)
  have h67 := @run_callFunc_extern Tryd.prog 67 _ (ReflectliteValue.method (ReflectliteValue.valueError "reflectlite.Value.Elem" 0) ReflectliteValue.elem) Tryd.func67 (by kernel_rfl) (by kernel_rfl) (by kernel_rfl) (by kernel_rfl)
  have h55 := @run_callFunc_extern Tryd.prog 55 _ (fun args => ReflectliteValue.unpack (args.getD 0 (.tuple #[]))) Tryd.func55 (by kernel_rfl) (by kernel_rfl) (by kernel_rfl) (by kernel_rfl)
  have h68 := @run_callFunc_extern Tryd.prog 68 _ ReflectliteValue.set Tryd.func68 (by kernel_rfl) (by kernel_rfl) (by kernel_rfl) (by kernel_rfl)
  have tO := typeOf_any 118 (.pointer (some e))
  have mA := methodAssignableTo
  have a1 := assignableC
  have v1 := valueOfEC
  have hb1 := hb.alloc (.cells #[.pointer (some ⟨6, 119, none⟩), .pointer (some ⟨b, 0, none⟩), .int .u64 150] 131)
  have el := elemVC b ⟨tb, 0, none⟩ (w.alloc (.cells #[.pointer (some ⟨6, 119, none⟩), .pointer (some ⟨b, 0, none⟩), .int .u64 150] 131)) (hb1.cell 0 _ rfl)
  have ht2 : BlkL ((w.alloc (.cells #[.pointer (some ⟨6, 119, none⟩), .pointer (some ⟨b, 0, none⟩), .int .u64 150] 131)).alloc (.cells #[.pointer (some e)] 118)) tb [old] := (ht.alloc _).alloc _
  have he2 : BlkL ((w.alloc (.cells #[.pointer (some ⟨6, 119, none⟩), .pointer (some ⟨b, 0, none⟩), .int .u64 150] 131)).alloc (.cells #[.pointer (some e)] 118)) (w.heap.size + 1) [.pointer (some e)] := by
    have := BlkL.new (w.alloc (.cells #[.pointer (some ⟨6, 119, none⟩), .pointer (some ⟨b, 0, none⟩), .int .u64 150] 131)) [.pointer (some e)] 118
    rw [show (w.alloc (.cells #[.pointer (some ⟨6, 119, none⟩), .pointer (some ⟨b, 0, none⟩), .int .u64 150] 131)).heap.size = w.heap.size + 1 by simp] at this
    exact this
  have st := setC ⟨tb, 0, none⟩ (w.heap.size + 1) e old ((w.alloc (.cells #[.pointer (some ⟨6, 119, none⟩), .pointer (some ⟨b, 0, none⟩), .int .u64 150] 131)).alloc (.cells #[.pointer (some e)] 118)) (he2.cell 0 _ rfl) (ht2.cell 0 _ rfl) (ht2.froz 0 (by simp))
  have HT2 := Lib.hid ht2
  have HOF : Hid (Off [tb] w ((w.alloc (.cells #[.pointer (some ⟨6, 119, none⟩), .pointer (some ⟨b, 0, none⟩), .int .u64 150] 131)).alloc (.cells #[.pointer (some e)] 118))) := Lib.hid (((Off.refl _ w).alloc _).alloc _)
  clear hb1 ht2 he2 hb ht
  go_enter Tryd.func58, Tryd.ntmps58
  go_wp2
  refine wp_loop_rounds 1 ?_
  rw [rounds_succ]
  go_wp2
  go_ret
  exact ⟨rfl, HT2.out.set 0 _ (by simp), HOF.out.setCell (p := ⟨tb, 0, none⟩) (by simp) _⟩
/-- What Go met is no error with an As, or with an Unwrap. -/
def RunT (T : TypeId) : Prop := T = 8 ∨ T = 10 ∨ T = 11 ∨ T = 15 ∨ T = 16
theorem noAs {T : TypeId} (h : RunT T ∨ T = 118) (v : Value) (w : World) : (Instr.typeAssert (.iface T v) 101 155 true).run Tryd.prog w = .ok (.tuple #[.nilIface, .bool false]) w := by
  rcases h with (rfl | rfl | rfl | rfl | rfl) | rfl <;> exact run_typeAssert_lacksB Tryd.underlying155 (by kernel_rfl) (by kernel_rfl) v 101 w
theorem noUnw {T : TypeId} (h : RunT T) (v : Value) (w : World) : (Instr.typeAssert (.iface T v) 101 158 true).run Tryd.prog w = .ok (.tuple #[.nilIface, .bool false]) w := by
  rcases h with rfl | rfl | rfl | rfl | rfl <;> exact run_typeAssert_lacksB Tryd.underlying158 (by kernel_rfl) (by kernel_rfl) v 101 w
theorem noUnws {T : TypeId} (h : RunT T) (v : Value) (w : World) : (Instr.typeAssert (.iface T v) 101 160 true).run Tryd.prog w = .ok (.tuple #[.nilIface, .bool false]) w := by
  rcases h with rfl | rfl | rfl | rfl | rfl <;> exact run_typeAssert_lacksB Tryd.underlying160 (by kernel_rfl) (by kernel_rfl) v 101 w
theorem hasUnw (v : Value) (w : World) : (Instr.typeAssert (.iface 118 v) 101 158 true).run Tryd.prog w = .ok (.tuple #[.iface 118 v, .bool true]) w :=
  run_typeAssert_hasB Tryd.underlying158 (by kernel_rfl) v 101 w
theorem unwrap_any (w : World) (b : Nat) (k : Int) (met : Value) (h : BlkL w b [.int .u8 k, met]) :
    Calls Tryd.prog 107 #[.pointer (some ⟨b, 0, none⟩)] w fun e w' => e = .returned met ∧ w = w' := by
  have h1 := h.cell 1 _ rfl
  clear h
  go_enter Tryd.func107, Tryd.ntmps107
  go_wp2
  go_ret
  exact ⟨rfl, rfl⟩
theorem as_missF (w : World) (T : TypeId) (x : Value) (V : Value) (b : Nat) (hTT : RunT T) :
    Calls Tryd.prog 58 #[.iface T x, V, .agg #[.pointer (some ⟨6, 115, none⟩), .pointer (some ⟨b, 0, none⟩), .int .u64 150], .iface 150 (.agg #[.pointer (some ⟨6, 113, none⟩)])] w fun r w' => r = .returned (.bool false) ∧ Off [] w w' := by
  have h66 := @run_callFunc_extern Tryd.prog 66 _ ReflectliteType.typeOf Tryd.func66 (by kernel_rfl) (by kernel_rfl) (by kernel_rfl) (by kernel_rfl)
  have h115 := @run_callFunc_extern Tryd.prog 115 _ (ReflectliteType.relation "AssignableTo" ReflectliteType.assignableTo) Tryd.func115 (by kernel_rfl) (by kernel_rfl) (by kernel_rfl) (by kernel_rfl)
  have tO := typeOf_any T x
  have mA := methodAssignableTo
  have a1 := noF T (Or.inr hTT)
  have q1 := noAs (Or.inl hTT) x
  have q2 := noUnw hTT x
  have q3 := noUnws hTT x
  have HOF : Hid (Off [] w (w.alloc (.cells #[.pointer (some ⟨6, 115, none⟩), .pointer (some ⟨b, 0, none⟩), .int .u64 150] 131))) := Lib.hid ((Off.refl _ w).alloc _)
  clear hTT
  go_enter Tryd.func58, Tryd.ntmps58
  go_wp2
  refine wp_loop_rounds 1 ?_
  rw [rounds_succ]
  go_wp2
  go_ret
  exact ⟨rfl, HOF.out⟩
/-- A crash holds no failure. -/
theorem as_crashF (w : World) (c : Nat) (k : Int) (met : Value) (V : Value) (b : Nat) (hm : MetOk met) (hc : BlkL w c [.int .u8 k, met]) :
    Calls Tryd.prog 58 #[.iface 118 (.pointer (some ⟨c, 0, none⟩)), V, .agg #[.pointer (some ⟨6, 115, none⟩), .pointer (some ⟨b, 0, none⟩), .int .u64 150], .iface 150 (.agg #[.pointer (some ⟨6, 113, none⟩)])] w fun r w' => r = .returned (.bool false) ∧ Off [] w w' := by
  have h66 := @run_callFunc_extern Tryd.prog 66 _ ReflectliteType.typeOf Tryd.func66 (by kernel_rfl) (by kernel_rfl) (by kernel_rfl) (by kernel_rfl)
  have h115 := @run_callFunc_extern Tryd.prog 115 _ (ReflectliteType.relation "AssignableTo" ReflectliteType.assignableTo) Tryd.func115 (by kernel_rfl) (by kernel_rfl) (by kernel_rfl) (by kernel_rfl)
  have tO := typeOf_any 118 (.pointer (some ⟨c, 0, none⟩))
  have mA := methodAssignableTo
  have mU := methodUnwrap
  have a1 := noF 118 (Or.inl rfl)
  have q1 := noAs (Or.inr rfl) (.pointer (some ⟨c, 0, none⟩))
  have q2 := hasUnw (.pointer (some ⟨c, 0, none⟩))
  have hc2 := hc.alloc (.cells #[.pointer (some ⟨6, 115, none⟩), .pointer (some ⟨b, 0, none⟩), .int .u64 150] 131)
  have HU := Lib.hid (unwrap_any _ c k met hc2)
  have HOF : Hid (Off [] w (w.alloc (.cells #[.pointer (some ⟨6, 115, none⟩), .pointer (some ⟨b, 0, none⟩), .int .u64 150] 131))) := Lib.hid ((Off.refl _ w).alloc _)
  have hn1 : ∀ (w : World) (T : TypeId) (x : Value), (binOp BinOp.eql 101 (.iface T x) .nilIface).run Tryd.prog w = .ok (.bool false) w := fun w T x => by kernel_rfl
  have hn2 : ∀ w : World, (binOp BinOp.eql 101 .nilIface .nilIface).run Tryd.prog w = .ok (.bool true) w := fun w => by kernel_rfl
  clear hc hc2
  go_enter Tryd.func58, Tryd.ntmps58
  go_wp2
  refine wp_loop_rounds 2 ?_
  rw [rounds_succ]
  go_wp2_with fail
  with_reducible refine HU.out.mono ?_
  rintro e w2 ⟨rfl, rfl⟩
  rcases hm with rfl | ⟨T, x, rfl, hR⟩
  · go_wp2
    go_ret
    exact ⟨rfl, HOF.out⟩
  · have hTT : RunT T := hR
    have tO2 := typeOf_any T x
    have a2 := noF T (Or.inr hTT)
    have q3 := noAs (Or.inl hTT) x
    have q4 := noUnw hTT x
    have q5 := noUnws hTT x
    clear hR hTT
    go_wp2
    rw [rounds_succ]
    go_wp2
    go_ret
    exact ⟨rfl, HOF.out⟩
end Go.Proofs.YtifldnkcheobhaaDoor
