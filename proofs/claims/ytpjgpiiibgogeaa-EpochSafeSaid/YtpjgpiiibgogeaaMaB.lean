/- Contracts: remember. -/
import Derived.Test.YtpjgpiiibgogeaaMaA
namespace Go.Proofs.Ytpjgpiiibgogeaa
open Go.RowKit
set_option maxRecDepth 100000
set_option linter.unusedVariables false

/-- An access as cells. -/
structure AccV where
  who : Int
  kind : Int
  word : Int
  old : Int
  new : Int
  done : Bool
def AccV.cells (a : AccV) : List Value := [.int .i64 a.who, .int .u8 a.kind, .int .i64 a.word, .int .u64 a.old, .int .u64 a.new, .bool a.done]
/-- Six cells put at place q. -/
def put6 (r : List Value) (q : Nat) (a : AccV) : List Value := (((((r.set (q * 6) (.int .i64 a.who)).set (q * 6 + 1) (.int .u8 a.kind)).set (q * 6 + 2) (.int .i64 a.word)).set (q * 6 + 3) (.int .u64 a.old)).set (q * 6 + 4) (.int .u64 a.new)).set (q * 6 + 5) (.bool a.done)
theorem put6_len (r : List Value) (q : Nat) (a : AccV) : (put6 r q a).length = r.length := by simp [put6]

set_option maxHeartbeats 800000 in
theorem remember_any (w : World) (b bw n : Nat) (ws : List Nat) (clk : Int) (k : Nat) (ring : List Value) (h : MachS w b bw n ws clk k ring) (hk : k < 9223372036854775807) (a : AccV) :
    Calls Try.prog 85 #[.pointer (some ⟨b, 0, none⟩), .agg a.cells.toArray] w fun e w' => e = .returned (.tuple #[]) ∧ MachS w' b bw n ws clk (k + 1) (put6 ring (k % 64) a) ∧ Off [b] w w' := by
  have hc2 := h.c2
  have hq : k % 64 < 64 := Nat.mod_lt _ (by omega)
  have f0 := h.f (i := 3 + (k % 64) * 6) (by omega)
  have f1 := h.f (i := 3 + (k % 64) * 6 + 1) (by omega)
  have f2 := h.f (i := 3 + (k % 64) * 6 + 2) (by omega)
  have f3 := h.f (i := 3 + (k % 64) * 6 + 3) (by omega)
  have f4 := h.f (i := 3 + (k % 64) * 6 + 4) (by omega)
  have f5 := h.f (i := 3 + (k % 64) * 6 + 5) (by omega)
  have g2 := h.f (i := 2) (by omega)
  have hlt := h.blk.lt
  have c0 := h.rc (i := (k % 64) * 6) (by omega)
  have c1 : w.cell? ⟨b, 3 + (k % 64) * 6 + 1, none⟩ = _ := h.rc (i := (k % 64) * 6 + 1) (by omega)
  have c2 : w.cell? ⟨b, 3 + (k % 64) * 6 + 2, none⟩ = _ := h.rc (i := (k % 64) * 6 + 2) (by omega)
  have c3 : w.cell? ⟨b, 3 + (k % 64) * 6 + 3, none⟩ = _ := h.rc (i := (k % 64) * 6 + 3) (by omega)
  have c4 : w.cell? ⟨b, 3 + (k % 64) * 6 + 4, none⟩ = _ := h.rc (i := (k % 64) * 6 + 4) (by omega)
  have c5 : w.cell? ⟨b, 3 + (k % 64) * 6 + 5, none⟩ = _ := h.rc (i := (k % 64) * 6 + 5) (by omega)
  have HM := Lib.hid h
  clear h
  obtain ⟨a0, a1, a2, a3, a4, a5⟩ := a
  simp only [AccV.cells]
  go_enter Try.func85, Try.ntmps85
  go_wp2
  go_region
  go_wp2
  go_end0
  refine ⟨rfl, (((HM.out.put6 hq _ _ _ _ _ _).setCount (k + 1)).alloc _).drew, ?_⟩
  repeat' first
    | with_reducible exact Off.refl _ _
    | with_reducible refine Off.setCell ?_ (by simp) _
    | with_reducible refine Off.alloc ?_ _
    | with_reducible refine Off.drew ?_
end Go.Proofs.Ytpjgpiiibgogeaa
