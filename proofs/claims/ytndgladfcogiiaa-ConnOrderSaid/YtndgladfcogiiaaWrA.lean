/- Contracts: isTick, Form, Reply. -/
import Derived.Test.YtndgladfcogiiaaFrD
import Derived.Test.YtndgladfcogiiaaTokC
import Derived.IntWalk
namespace Go.Proofs.Ytndgladfcogiiaa
open Go.RowKit
set_option maxRecDepth 100000
set_option linter.unusedVariables false

/-- A number that is a tick. -/
def tkB (n : Int) : Bool := decide (0 ≤ n) && decide (n ≤ 4611686018427387903)
theorem tkB_true {n : Int} (h : tkB n = true) : 0 ≤ n ∧ n ≤ 4611686018427387903 := by unfold tkB at h; simpa using h
theorem tkB_of {n : Int} (h0 : 0 ≤ n) (h : n ≤ 4611686018427387903) : tkB n = true := by unfold tkB; simp [h0, h]
theorem wtick_any (w : World) (p : Int) : Calls Try.prog 100 #[.int .i64 p] w fun e w' => e = .returned (.bool (tkB p)) ∧ w = w' := by
  obtain ⟨r, hr⟩ : ∃ r, tkB p = r := ⟨_, rfl⟩
  rw [hr]
  have hd := hr
  unfold tkB at hd
  have HR := Lib.hid hd
  clear hr hd
  by_cases h0 : 0 ≤ p
  · have d0 : decide (0 ≤ p) = true := decide_eq_true h0
    have hd := HR.out
    rw [d0, Bool.true_and] at hd
    clear HR
    go_enter Try.func100, Try.ntmps100
    go_wp2
    go_ret
    exact ⟨rfl, rfl⟩
  · have d0 : decide (0 ≤ p) = false := decide_eq_false h0
    have hd := HR.out
    rw [d0, Bool.false_and] at hd
    subst hd
    clear HR
    go_enter Try.func100, Try.ntmps100
    go_wp2
    go_ret
    exact ⟨rfl, rfl⟩
theorem rform_any (w : World) (p : Int) : Calls Try.prog 95 #[.int .i64 p] w fun e w' => e = .returned (.bool (tkB p)) ∧ w = w' := by
  obtain ⟨r, hr⟩ : ∃ r, tkB p = r := ⟨_, rfl⟩
  rw [hr]
  have hd := hr
  unfold tkB at hd
  have HR := Lib.hid hd
  clear hr hd
  by_cases h0 : 0 ≤ p
  · have d0 : decide (0 ≤ p) = true := decide_eq_true h0
    have hd := HR.out
    rw [d0, Bool.true_and] at hd
    clear HR
    go_enter Try.func95, Try.ntmps95
    go_wp2
    go_ret
    exact ⟨rfl, rfl⟩
  · have d0 : decide (0 ≤ p) = false := decide_eq_false h0
    have hd := HR.out
    rw [d0, Bool.false_and] at hd
    subst hd
    clear HR
    go_enter Try.func95, Try.ntmps95
    go_wp2
    go_ret
    exact ⟨rfl, rfl⟩

/-- A reply's fields. -/
structure RpV where
  E : Int
  G : Bool
  a : Int
  b : Int
  c : Int
  d : Int
abbrev RpV.cells (r : RpV) : List Value := [.int .i64 r.E, .bool r.G, .int .i64 r.a, .int .i64 r.b, .int .i64 r.c, .int .i64 r.d]
abbrev RpV.val (r : RpV) : Value := .agg #[.int .i64 r.E, .bool r.G, .int .i64 r.a, .int .i64 r.b, .int .i64 r.c, .int .i64 r.d]
def RpV.eB (r : RpV) : Bool := decide (0 ≤ r.E) && decide (r.E ≤ 16)
def RpV.ok (r : RpV) : Bool := r.eB && tkB r.a && tkB r.b && tkB r.c && tkB r.d
def RpV.bytes (r : RpV) : List Nat := [r.E.toNat, if r.G then 1 else 0] ++ Tk.wordV r.a.toNat 8 ++ Tk.wordV r.b.toNat 8 ++ Tk.wordV r.c.toNat 8 ++ Tk.wordV r.d.toNat 8
theorem RpV.len (r : RpV) : r.bytes.length = 34 := by simp [RpV.bytes, Tk.wordV_len]
/-- How Reply ends, of the program and of the document. -/
def RpE (w : World) (r : RpV) (e : Ending) (w' : World) : Prop :=
  ∃ XA xn xc, e = .returned (.tuple #[.slice XA xn xc, .int .i64 (if r.ok then 0 else 1)]) ∧ Arg w' w'.heap.size XA xn xc (if r.ok then r.bytes else []) ∧ Below w.heap.size w w'
theorem rpE_bad {w w' : World} {r : RpV} (h : r.ok = false) (hb : Below w.heap.size w w') : RpE w r (.returned (.tuple #[.slice none 0 0, .int .i64 1])) w' :=
  ⟨none, 0, 0, by rw [h]; rfl, by rw [h]; exact Arg.nil _ _, hb⟩
/-- The bytes as they have grown behind the first j numbers. -/
def RpV.upto (r : RpV) (j : Nat) : List Nat := [r.E.toNat, if r.G then 1 else 0] ++ ((([r.a, r.b, r.c, r.d].take j).map fun n => Tk.wordV n.toNat 8).flatten)
theorem RpV.upto4 (r : RpV) : r.upto 4 = r.bytes := by simp [RpV.upto, RpV.bytes]
theorem RpV.upto_len (r : RpV) (j : Nat) (h : j ≤ 4) : (r.upto j).length = 2 + 8 * j := by
  rcases (by omega : j = 0 ∨ j = 1 ∨ j = 2 ∨ j = 3 ∨ j = 4) with rfl | rfl | rfl | rfl | rfl <;> simp [RpV.upto, Tk.wordV_len]
theorem u64_nat {n : Int} (h0 : 0 ≤ n) (h : n ≤ 4611686018427387903) : IntKind.u64.wrap n = ((n.toNat : Nat) : Int) := by
  rw [Int.toNat_of_nonneg h0]; exact IntWalk.u64_in _ (by omega)
theorem OwnB.set1 {w : World} {g x y : Nat} {B : Nat} (h : OwnB w B (some ⟨g, 0, none⟩) 2 2 [x, y]) (z : Nat) (hz : z < 256) : OwnB (w.setCell ⟨g, 1, none⟩ (V8 z)) B (some ⟨g, 0, none⟩) 2 2 [x, z] := by
  have hb := h.block
  have h1 := block_set hb 1 z
  have hB : B ≤ g := by
    rcases h.1.2 with ⟨e, e2⟩ | ⟨g', cap, cur, e1, e2, _⟩
    · simp at e
    · simp only [Value.slice.injEq, Option.some.injEq, Addr.mk.injEq] at e1; omega
  have h2 := h.2
  exact OwnB.of_block h1 hB rfl (by simp [maxLen]) (by intro d hd; simp at hd; rcases hd with rfl | rfl; exact h2 _ (by simp); exact hz)
theorem run_idx4 (w : World) (a b c d : Value) (j : Nat) (x : Value) (hx : #[a, b, c, d][j]? = some x) (hj : j < 4) : (Instr.index 145 (.agg #[a, b, c, d]) (.int .i64 (j : Int))).run Try.prog w = .ok x w := by
  have hu : Try.prog.underlying 145 = some (.array 4 2) := by kernel_rfl
  rcases (by omega : j = 0 ∨ j = 1 ∨ j = 2 ∨ j = 3) with rfl | rfl | rfl | rfl <;> simp [Instr.index, asIntOf, run_underlying hu, part, isAgg, run_underlying Try.underlying2] at hx ⊢ <;> simp [hx]
end Go.Proofs.Ytndgladfcogiiaa
