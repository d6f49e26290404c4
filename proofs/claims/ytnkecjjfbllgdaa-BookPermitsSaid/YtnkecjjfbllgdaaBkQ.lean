/- table, Len, the method check, Do of a call on an identity. -/
import Derived.Test.YtnkecjjfbllgdaaBkJ
namespace Go.Proofs.Ytnkecjjfbllgdaa
open Go.RowKit Go.Maps
set_option maxRecDepth 100000
set_option linter.unusedVariables false

set_option maxHeartbeats 400000 in
theorem table_any (w : World) : Calls Try.prog 16 #[] w fun e w' => e = .returned (.slice (some ⟨w.heap.size, 0, none⟩) 2 2) ∧ w' = w.alloc (.cells (FP [⟨1, 10, 20, 0⟩, ⟨2, 0, 0, 2⟩]).toArray 52) := by
  go_enter Try.func16, Try.ntmps16
  go_wp2
  go_ret
  exact ⟨rfl, rfl⟩

set_option maxHeartbeats 400000 in
theorem blen_any (w : World) (b mb sz : Nat) (hc : w.cell? ⟨b, 2, none⟩ = some (.map (some mb))) (hl : ∀ ty, (Builtin.len_ #[69] ty #[.map (some mb)]).run Try.prog w = .ok (.int .i64 (sz : Nat)) w) :
    Calls Try.prog 19 #[.pointer (some ⟨b, 0, none⟩)] w fun e w' => e = .returned (.int .i64 (sz : Nat)) ∧ w' = w := by
  go_enter Try.func19, Try.ntmps19
  go_wp2
  go_ret
  exact ⟨rfl, rfl⟩

/-- What the method check answers, of a book that is not nil. -/
def chkD (l : List PolM) (op : Nat) (q : Int) (kn : Nat) (N now s : Int) : Int :=
  if isTick now = false ∨ (op = 2 ∧ ¬ (1 ≤ s ∧ s ≤ 4611686018427387903)) then 1 else chkC l op q kn N
set_option maxHeartbeats 1600000 in
theorem bcheck_ok (w : World) (b n c op kn kc : Nat) (A KA : Option Addr) (q N now s f : Int) (room mb : Nat) (KB : BlkL w b [.slice A n c, .int .i64 (room : Nat), .map (some mb)])
    (HT : Hid (∀ w, Calls Try.prog 47 #[.int .i64 now] w fun e w' => e = .returned (.bool true) ∧ w = w'))
    (HS : op = 2 → Hid (∀ w, Calls Try.prog 49 #[.int .i64 s] w fun e w' => e = .returned (.bool true) ∧ w = w'))
    (HC : Hid (∀ W, Below w.heap.size w W → Calls Try.prog 29 #[.slice A n c, .agg #[.int .u8 (op : Nat), .int .i64 q, .slice KA kn kc, .int .i64 N]] W fun e w' => e = .returned (.int .i64 f) ∧ Below W.heap.size W w')) :
    Calls Try.prog 33 #[.pointer (some ⟨b, 0, none⟩), .agg #[.int .u8 (op : Nat), .int .i64 q, .slice KA kn kc, .int .i64 N], .int .i64 now, .int .i64 s] w (ValEnd w (.int .i64 f)) := by
  have l0 := KB.cell 0 _ rfl
  have lb := KB.lt
  clear KB
  by_cases h2 : op = 2
  · have HS2 := HS h2
    clear HS
    subst h2
    have HC := Lib.hid (show ∀ W, Below w.heap.size w W → Calls Try.prog 29 #[.slice A n c, .agg #[.int .u8 2, .int .i64 q, .slice KA kn kc, .int .i64 N]] W fun e w' => e = .returned (.int .i64 f) ∧ Below W.heap.size W w' from HC.out)
    go_enter Try.func33, Try.ntmps33
    go_wp2_with fail
    with_reducible refine (HT.out _).mono ?_
    rintro e w1 ⟨rfl, rfl⟩
    go_wp2_with fail
    with_reducible refine (HS2.out _).mono ?_
    rintro e w1 ⟨rfl, rfl⟩
    go_wp2_with fail
    have hb0 := Lib.hid ((below_a1 w (.cells #[.int .u8 2, .int .i64 q, .slice KA kn kc, .int .i64 N] 25)).drew)
    go_region_with (with_reducible refine (HC.out _ hb0.out).mono ?_; rintro e w2 ⟨rfl, hb⟩; have HB2 := Lib.hid (hb0.out.trans (hb.mono hb0.out.size)); clear hb)
    all_goals
      go_wp2
      go_ret
      exact ⟨rfl, HB2.out⟩
  · have q2 := u8_ne2 h2
    clear HS
    go_enter Try.func33, Try.ntmps33
    go_wp2_with fail
    with_reducible refine (HT.out _).mono ?_
    rintro e w1 ⟨rfl, rfl⟩
    go_wp2_with fail
    have hb0 := Lib.hid ((below_a1 w (.cells #[.int .u8 (op : Nat), .int .i64 q, .slice KA kn kc, .int .i64 N] 25)).drew)
    go_region_with (with_reducible refine (HC.out _ hb0.out).mono ?_; rintro e w2 ⟨rfl, hb⟩; have HB2 := Lib.hid (hb0.out.trans (hb.mono hb0.out.size)); clear hb)
    all_goals
      go_wp2
      go_ret
      exact ⟨rfl, HB2.out⟩
end Go.Proofs.Ytnkecjjfbllgdaa
