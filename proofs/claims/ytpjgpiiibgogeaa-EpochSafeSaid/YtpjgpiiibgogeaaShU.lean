/- Contracts of a shard: Pending, Version. -/
import Derived.Test.YtpjgpiiibgogeaaShT
namespace Go.Proofs.Ytpjgpiiibgogeaa
open Go.RowKit
set_option maxRecDepth 100000
set_option linter.unusedVariables false

def isNx : Nx → Bool
  | .none => false
  | _ => true
section
variable (w : World) (s b bw : Nat) (X : List Nat) (k v n c : Nat) (A : Option Addr) (es : List KV) (fv : Nat → Value) (nx : Nat → Nx) (ring : List Value)
theorem sPend_nil (who : Int) : Calls Try.prog 43 #[.pointer none, .int .i64 who] w fun e w' => e = .returned (.bool false) ∧ w = w' := by
  go_enter Try.func43, Try.ntmps43
  go_wp2
  go_ret
  exact ⟨rfl, rfl⟩
theorem sPend_bad (who : Int) (hb : inB who 64 = false) : Calls Try.prog 43 #[.pointer (some ⟨s, 0, none⟩), .int .i64 who] w fun e w' => e = .returned (.bool false) ∧ w = w' := by
  have HW := Lib.hid (sWho_any w who)
  rw [hb] at HW
  clear hb
  go_enter Try.func43, Try.ntmps43
  go_wp2_with fail
  with_reducible refine HW.out.mono ?_
  rintro e w1 ⟨rfl, hw⟩
  subst hw
  go_wp2
  go_ret
  exact ⟨rfl, rfl⟩
theorem sPend_none (i : Nat) (hi : i < 64) (hc : w.cell? ⟨s, 2 + i, none⟩ = some .nilFunc) : Calls Try.prog 43 #[.pointer (some ⟨s, 0, none⟩), .int .i64 (i : Int)] w fun e w' => e = .returned (.bool false) ∧ w = w' := by
  have HW := Lib.hid (sWho_any w i)
  have hb : inB (i : Int) 64 = true := inB_iff.mpr (by omega)
  rw [hb] at HW
  clear hb
  have qn : ∀ w, (binOp .neq 142 .nilFunc .nilFunc).run Try.prog w = .ok (.bool false) w := fun w => rfl
  go_enter Try.func43, Try.ntmps43
  go_wp2_with fail
  with_reducible refine HW.out.mono ?_
  rintro e w1 ⟨rfl, hw⟩
  subst hw
  go_wp2
  go_ret
  exact ⟨rfl, rfl⟩
theorem sPend_some (i : Nat) (hi : i < 64) (K : Fn) (f1 f2 : Array Value) (hc : w.cell? ⟨s, 2 + i, none⟩ = some (.func K f1 f2)) : Calls Try.prog 43 #[.pointer (some ⟨s, 0, none⟩), .int .i64 (i : Int)] w fun e w' => e = .returned (.bool true) ∧ w = w' := by
  have HW := Lib.hid (sWho_any w i)
  have hb : inB (i : Int) 64 = true := inB_iff.mpr (by omega)
  rw [hb] at HW
  clear hb
  have qn : ∀ w, (binOp .neq 142 (.func K f1 f2) .nilFunc).run Try.prog w = .ok (.bool true) w := fun w => rfl
  go_enter Try.func43, Try.ntmps43
  go_wp2_with fail
  with_reducible refine HW.out.mono ?_
  rintro e w1 ⟨rfl, hw⟩
  subst hw
  go_wp2
  go_ret
  exact ⟨rfl, rfl⟩
theorem sPend_at (i : Nat) (hi : i < 64) (S : List Nat) (x : Nx) (f : Value) (hx : NxV w s i S x f) (hc : w.cell? ⟨s, 2 + i, none⟩ = some f) : Calls Try.prog 43 #[.pointer (some ⟨s, 0, none⟩), .int .i64 (i : Int)] w fun e w' => e = .returned (.bool (isNx x)) ∧ w = w' := by
  cases hx with
  | none => exact sPend_none w s i hi hc
  | read => exact sPend_some w s i hi _ _ _ hc
  | write => exact sPend_some w s i hi _ _ _ hc
theorem sWord0 (h : MachS w b bw 1 [v] 0 k ring) :
    Calls Try.prog 62 #[.pointer (some ⟨b, 0, none⟩), .int .i64 0] w fun e w' => e = .returned (.tuple #[.int .u64 (v : Int), .int .i64 0]) ∧ w = w' :=
  word_at w b bw 1 [v] 0 k ring h 0 (by omega)
theorem sVersion_any (h : ShR w s b bw X k v A n c es fv nx ring) (hk : v ≤ 9223372036854775807) : Calls Try.prog 45 #[.pointer (some ⟨s, 0, none⟩)] w fun e w' => e = .returned (.int .i64 (v : Int)) ∧ w = w' := by
  have HW := Lib.hid (sWord0 w b bw k v ring h.m)
  have c0 := h.c0
  clear h
  go_enter Try.func45, Try.ntmps45
  go_wp2_with fail
  with_reducible refine HW.out.mono ?_
  rintro e w1 ⟨rfl, hw⟩
  subst hw
  go_wp2
  go_ret
  exact ⟨rfl, rfl⟩
theorem sVersion_nil : Calls Try.prog 45 #[.pointer none] w fun e w' => e = .returned (.int .i64 0) ∧ w = w' := by
  go_enter Try.func45, Try.ntmps45
  go_wp2
  go_ret
  exact ⟨rfl, rfl⟩
theorem sLoad0 (h : MachS w b bw 1 [v] 0 k ring) (hk : k < 9223372036854775807) (i : Nat) (hi : i < 64) :
    Calls Try.prog 87 #[.pointer (some ⟨b, 0, none⟩), .int .i64 (i : Int), .int .i64 0] w fun e w' => e = .returned (.tuple #[.int .u64 (v : Int), .int .i64 0]) ∧ (∃ ring, MachS w' b bw 1 [v] 0 (k + 1) ring) ∧ Off [b] w w' :=
  (load_ok w b bw 1 [v] 0 k ring h hk i 0 (inB_iff.mpr (by omega)) (by omega)).mono fun e w' ⟨h1, h2, h3⟩ => ⟨h1, ⟨_, h2⟩, h3⟩
theorem sSwap0 (h : MachS w b bw 1 [v] 0 k ring) (hk : k < 9223372036854775807) (i : Nat) (hi : i < 64) (old new : Nat) :
    Calls Try.prog 63 #[.pointer (some ⟨b, 0, none⟩), .int .i64 (i : Int), .int .i64 0, .int .u64 (old : Int), .int .u64 (new : Int)] w fun e w' => e = .returned (.tuple #[.bool (decide (v = old)), .int .i64 0]) ∧ (∃ ring, MachS w' b bw 1 [if v = old then new else v] 0 (k + 1) ring) ∧ Off [b, bw] w w' := by
  refine (swap_ok w b bw 1 [v] 0 k ring h hk i 0 old new (inB_iff.mpr (by omega)) (by omega)).mono ?_
  rintro e w' ⟨h1, h2, h3⟩
  have e2 : (if [v].getD 0 0 = old then [v].set 0 new else [v]) = [if v = old then new else v] := by
    show (if v = old then [new] else [v]) = _
    split <;> rfl
  rw [e2] at h2
  exact ⟨h1, ⟨_, h2⟩, h3⟩
end
end Go.Proofs.Ytpjgpiiibgogeaa
