/- errors.As at the targets of cause. -/
import Derived.Test.YtifldnkcheobhaaDoorAsB
namespace Go.Proofs.YtifldnkcheobhaaDoor
open Go.RowKit Go.Extern.Stop Go.Stop Go.Extern
set_option maxRecDepth 100000
set_option linter.unusedVariables false
set_option linter.unusedSimpArgs false
set_option maxHeartbeats 4000000

/-- errors.As at the target **cause.failure, out of what errors.as gives. -/
theorem As_F (w0 w : World) (T : TypeId) (x : Value) (tb : Nat) (ht : BlkL w tb [.pointer none]) (hg : Glb w0 w) (r : Bool) (Q : World → World → Prop)
    (h : ∀ (W : World) (b : Nat), Off [] w W → BlkL W b [.pointer (some ⟨tb, 0, none⟩)] → b ≠ tb → Calls Tryd.prog 58 #[.iface T x, .iface 115 (.pointer (some ⟨tb, 0, none⟩)), .agg #[.pointer (some ⟨6, 115, none⟩), .pointer (some ⟨b, 0, none⟩), .int .u64 150], .iface 150 (.agg #[.pointer (some ⟨6, 113, none⟩)])] W fun e w' => e = .returned (.bool r) ∧ Q W w') :
    Calls Tryd.prog 44 #[.iface T x, .iface 115 (.pointer (some ⟨tb, 0, none⟩))] w fun e w' => e = .returned (.bool r) ∧ ∃ W, Off [] w W ∧ Q W w' := by
  have h55 := @run_callFunc_extern Tryd.prog 55 _ (fun args => ReflectliteValue.unpack (args.getD 0 (.tuple #[]))) Tryd.func55 (by kernel_rfl) (by kernel_rfl) (by kernel_rfl) (by kernel_rfl)
  have h56 := @run_callFunc_extern Tryd.prog 56 _ (ReflectliteValue.methodAny (ReflectliteValue.valueError "reflectlite.Value.Type" 0) (fun t _ _ _ => ReflectliteType.toType t)) Tryd.func56 (by kernel_rfl) (by kernel_rfl) (by kernel_rfl) (by kernel_rfl)
  have h57 := @run_callFunc_extern Tryd.prog 57 _ (ReflectliteValue.method (ReflectliteValue.valueError "reflectlite.Value.IsNil" 0) ReflectliteValue.isNil) Tryd.func57 (by kernel_rfl) (by kernel_rfl) (by kernel_rfl) (by kernel_rfl)
  have h102 := @run_callFunc_extern Tryd.prog 102 _ (ReflectliteType.abiMethod fun t => do pure (.int .u8 (← Rtype.kind t))) Tryd.func102 (by kernel_rfl) (by kernel_rfl) (by kernel_rfl) (by kernel_rfl)
  have h117 := @run_callFunc_extern Tryd.prog 117 _ (ReflectliteType.method ReflectliteType.elem) Tryd.func117 (by kernel_rfl) (by kernel_rfl) (by kernel_rfl) (by kernel_rfl)
  have h118 := @run_callFunc_extern Tryd.prog 118 _ (ReflectliteType.relation "Implements" ReflectliteType.implements_) Tryd.func118 (by kernel_rfl) (by kernel_rfl) (by kernel_rfl) (by kernel_rfl)
  have f6 := valueOfF
  have f7 := typeF
  have mK := methodKind
  have mE := methodElem
  have mI := methodImplements
  have kP := kindPF
  have kE := kindF
  have eE := elemF
  have iE := implementsF
  have hn1 : ∀ (w : World) (T : TypeId) (x : Value), (binOp BinOp.eql 101 (.iface T x) .nilIface).run Tryd.prog w = .ok (.bool false) w := fun w T x => by kernel_rfl
  have hn2 : ∀ (w : World) (T : TypeId) (x : Value), (binOp BinOp.eql 20 (.iface T x) .nilIface).run Tryd.prog w = .ok (.bool false) w := fun w T x => by kernel_rfl
  have HW : Hid (Off [] w ((w.alloc (.cells #[.pointer (some ⟨tb, 0, none⟩)] 115)).alloc (.cells #[.pointer (some ⟨6, 115, none⟩), .pointer (some ⟨w.heap.size, 0, none⟩), .int .u64 150] 131))) := Lib.hid (((Off.refl _ w).alloc _).alloc _)
  have hb : BlkL ((w.alloc (.cells #[.pointer (some ⟨tb, 0, none⟩)] 115)).alloc (.cells #[.pointer (some ⟨6, 115, none⟩), .pointer (some ⟨w.heap.size, 0, none⟩), .int .u64 150] 131)) w.heap.size [.pointer (some ⟨tb, 0, none⟩)] := (BlkL.new w [.pointer (some ⟨tb, 0, none⟩)] _).alloc _
  have HC := Lib.hid (h _ w.heap.size HW.out hb (by have := ht.lt; omega))
  have n8 := isNilF w.heap.size ⟨tb, 0, none⟩ _ (hb.cell 0 _ rfl)
  have g0 : ((w.alloc (.cells #[.pointer (some ⟨tb, 0, none⟩)] 115)).alloc (.cells #[.pointer (some ⟨6, 115, none⟩), .pointer (some ⟨w.heap.size, 0, none⟩), .int .u64 150] 131)).cell? ⟨0, 0, none⟩ = some (.iface 150 (.agg #[.pointer (some ⟨6, 101, none⟩)])) := by
    have h1 := hg.err
    have hl : 0 < w.heap.size := by
      rcases Nat.lt_or_ge 0 w.heap.size with h | h
      · exact h
      · simp [World.cell?, Array.getElem?_eq_none h] at h1
    rw [HW.out.cell (p := ⟨0, 0, none⟩) hl (by simp)]
    exact h1
  clear ht hg h hb
  go_enter Tryd.func44, Tryd.ntmps44
  go_wp2_with fail
  with_reducible refine HC.out.mono ?_
  rintro e w2 ⟨rfl, hq⟩
  have HQ := Lib.hid hq
  clear hq
  go_wp2
  go_ret
  exact ⟨rfl, _, HW.out, HQ.out⟩
/-- errors.As at the target **cause.crash, out of what errors.as gives. -/
theorem As_C (w0 w : World) (T : TypeId) (x : Value) (tb : Nat) (ht : BlkL w tb [.pointer none]) (hg : Glb w0 w) (r : Bool) (Q : World → World → Prop)
    (h : ∀ (W : World) (b : Nat), Off [] w W → BlkL W b [.pointer (some ⟨tb, 0, none⟩)] → b ≠ tb → Calls Tryd.prog 58 #[.iface T x, .iface 119 (.pointer (some ⟨tb, 0, none⟩)), .agg #[.pointer (some ⟨6, 119, none⟩), .pointer (some ⟨b, 0, none⟩), .int .u64 150], .iface 150 (.agg #[.pointer (some ⟨6, 118, none⟩)])] W fun e w' => e = .returned (.bool r) ∧ Q W w') :
    Calls Tryd.prog 44 #[.iface T x, .iface 119 (.pointer (some ⟨tb, 0, none⟩))] w fun e w' => e = .returned (.bool r) ∧ ∃ W, Off [] w W ∧ Q W w' := by
  have h55 := @run_callFunc_extern Tryd.prog 55 _ (fun args => ReflectliteValue.unpack (args.getD 0 (.tuple #[]))) Tryd.func55 (by kernel_rfl) (by kernel_rfl) (by kernel_rfl) (by kernel_rfl)
  have h56 := @run_callFunc_extern Tryd.prog 56 _ (ReflectliteValue.methodAny (ReflectliteValue.valueError "reflectlite.Value.Type" 0) (fun t _ _ _ => ReflectliteType.toType t)) Tryd.func56 (by kernel_rfl) (by kernel_rfl) (by kernel_rfl) (by kernel_rfl)
  have h57 := @run_callFunc_extern Tryd.prog 57 _ (ReflectliteValue.method (ReflectliteValue.valueError "reflectlite.Value.IsNil" 0) ReflectliteValue.isNil) Tryd.func57 (by kernel_rfl) (by kernel_rfl) (by kernel_rfl) (by kernel_rfl)
  have h102 := @run_callFunc_extern Tryd.prog 102 _ (ReflectliteType.abiMethod fun t => do pure (.int .u8 (← Rtype.kind t))) Tryd.func102 (by kernel_rfl) (by kernel_rfl) (by kernel_rfl) (by kernel_rfl)
  have h117 := @run_callFunc_extern Tryd.prog 117 _ (ReflectliteType.method ReflectliteType.elem) Tryd.func117 (by kernel_rfl) (by kernel_rfl) (by kernel_rfl) (by kernel_rfl)
  have h118 := @run_callFunc_extern Tryd.prog 118 _ (ReflectliteType.relation "Implements" ReflectliteType.implements_) Tryd.func118 (by kernel_rfl) (by kernel_rfl) (by kernel_rfl) (by kernel_rfl)
  have f6 := valueOfC
  have f7 := typeC
  have mK := methodKind
  have mE := methodElem
  have mI := methodImplements
  have kP := kindPC
  have kE := kindC
  have eE := elemC
  have iE := implementsC
  have hn1 : ∀ (w : World) (T : TypeId) (x : Value), (binOp BinOp.eql 101 (.iface T x) .nilIface).run Tryd.prog w = .ok (.bool false) w := fun w T x => by kernel_rfl
  have hn2 : ∀ (w : World) (T : TypeId) (x : Value), (binOp BinOp.eql 20 (.iface T x) .nilIface).run Tryd.prog w = .ok (.bool false) w := fun w T x => by kernel_rfl
  have HW : Hid (Off [] w ((w.alloc (.cells #[.pointer (some ⟨tb, 0, none⟩)] 119)).alloc (.cells #[.pointer (some ⟨6, 119, none⟩), .pointer (some ⟨w.heap.size, 0, none⟩), .int .u64 150] 131))) := Lib.hid (((Off.refl _ w).alloc _).alloc _)
  have hb : BlkL ((w.alloc (.cells #[.pointer (some ⟨tb, 0, none⟩)] 119)).alloc (.cells #[.pointer (some ⟨6, 119, none⟩), .pointer (some ⟨w.heap.size, 0, none⟩), .int .u64 150] 131)) w.heap.size [.pointer (some ⟨tb, 0, none⟩)] := (BlkL.new w [.pointer (some ⟨tb, 0, none⟩)] _).alloc _
  have HC := Lib.hid (h _ w.heap.size HW.out hb (by have := ht.lt; omega))
  have n8 := isNilC w.heap.size ⟨tb, 0, none⟩ _ (hb.cell 0 _ rfl)
  have g0 : ((w.alloc (.cells #[.pointer (some ⟨tb, 0, none⟩)] 119)).alloc (.cells #[.pointer (some ⟨6, 119, none⟩), .pointer (some ⟨w.heap.size, 0, none⟩), .int .u64 150] 131)).cell? ⟨0, 0, none⟩ = some (.iface 150 (.agg #[.pointer (some ⟨6, 101, none⟩)])) := by
    have h1 := hg.err
    have hl : 0 < w.heap.size := by
      rcases Nat.lt_or_ge 0 w.heap.size with h | h
      · exact h
      · simp [World.cell?, Array.getElem?_eq_none h] at h1
    rw [HW.out.cell (p := ⟨0, 0, none⟩) hl (by simp)]
    exact h1
  clear ht hg h hb
  go_enter Tryd.func44, Tryd.ntmps44
  go_wp2_with fail
  with_reducible refine HC.out.mono ?_
  rintro e w2 ⟨rfl, hq⟩
  have HQ := Lib.hid hq
  clear hq
  go_wp2
  go_ret
  exact ⟨rfl, _, HW.out, HQ.out⟩
end Go.Proofs.YtifldnkcheobhaaDoor
