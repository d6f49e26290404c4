/- What a panic is in memory; a program in memory; what a run needs and leaves; how the deferred functions leave a run. -/
import Derived.Test.YtifldnkcheobhaaDoorCaC
namespace Go.Proofs.YtifldnkcheobhaaDoor
open Go.RowKit
set_option maxRecDepth 100000
set_option linter.unusedVariables false
set_option maxHeartbeats 4000000

def ERRT : Value := .iface 150 (.agg #[.pointer (some ⟨6, 101, none⟩)])
/-- The library's variables are as they were; and what one of them holds. -/
def Glb (w0 w : World) : Prop := w0.cell? ⟨0, 0, none⟩ = some ERRT ∧ (∀ k, k < 6 → w.heap[k]? = w0.heap[k]?) ∧ 6 ≤ w.heap.size
theorem Glb.err {w0 w : World} (h : Glb w0 w) : w.cell? ⟨0, 0, none⟩ = some ERRT := by
  rw [World.cell?_of_block (w := w0) (h.2.1 _ (by decide))]; exact h.1
theorem Glb.below {w0 w w' : World} {B : Nat} (h : Glb w0 w) (hg : 6 ≤ B) (hb : Below B w w') : Glb w0 w' :=
  ⟨h.1, fun k hk => (hb.block k (by omega)).trans (h.2.1 k hk), Nat.le_trans h.2.2 hb.size⟩
theorem Glb.off {w0 w w' : World} (h : Glb w0 w) (hb : Off [] w w') : Glb w0 w' :=
  ⟨h.1, fun k hk => (hb.block k (by have := h.2.2; omega) (by simp)).trans (h.2.1 k hk), Nat.le_trans h.2.2 hb.size⟩
/-- What Go met, as an error; or nothing. -/
def MetOk (v : Value) : Prop := v = .nilIface ∨ ∃ T x, v = .iface T x ∧ (T = 8 ∨ T = 10 ∨ T = 11 ∨ T = 15 ∨ T = 16)
/-- A value that was caught, and the panic that it is. -/
inductive CauseR (w0 w : World) : Value → Option PanV → Prop
  | none : CauseR w0 w .nilIface none
  | int (n : Int) (h : -9223372036854775808 ≤ n ∧ n ≤ 9223372036854775807) : CauseR w0 w (.iface 3 (.int .i64 n)) (some (11, n))
  | text (s : ByteArray) (n : Int) (h : ∀ W : World, Glb w0 W → Calls Tryd.prog 37 #[.string s] W fun e W' => e = .returned (.int .i64 n) ∧ Off [] W W') : CauseR w0 w (.iface 9 (.string s)) (some (12, n))
  | err (b : Nat) (n : Int) (h : BlkL w b [.int .i64 n]) : CauseR w0 w (.iface 113 (.pointer (some ⟨b, 0, none⟩))) (some (13, n))
  | crash (b : Nat) (k : Nat) (met : Value) (h : BlkL w b [.int .u8 (k : Int), met]) (hm : MetOk met) (hk : 14 ≤ k ∧ k ≤ 24) : CauseR w0 w (.iface 118 (.pointer (some ⟨b, 0, none⟩))) (some (k, 0))
/-- Its block. -/
def cbk : Value → List Nat
  | .iface _ (.pointer (some a)) => [a.block]
  | _ => []
theorem CauseR.ifv {w0 w : World} {v : Value} {c : Option PanV} (h : CauseR w0 w v c) : IfV v := by cases h <;> constructor
theorem CauseR.lt {w0 w : World} {v : Value} {c : Option PanV} (h : CauseR w0 w v c) : ∀ y ∈ cbk v, y < w.heap.size := by
  cases h with
  | none => intro y hy; simp [cbk] at hy
  | int n h => intro y hy; simp [cbk] at hy
  | text s n h => intro y hy; simp [cbk] at hy
  | err b n h => intro y hy; simp [cbk] at hy; subst hy; exact h.lt
  | crash b k met h hm hk => intro y hy; simp [cbk] at hy; subst hy; exact h.lt
theorem CauseR.off {w0 w w' : World} {v : Value} {c : Option PanV} {S : List Nat} (h : CauseR w0 w v c) (hf : Off S w w') (hS : ∀ y ∈ cbk v, y ∉ S) : CauseR w0 w' v c := by
  cases h with
  | none => exact .none
  | int n h => exact .int n h
  | text s n h => exact .text s n h
  | err b n h => exact .err b n (h.off hf (hS b (by simp [cbk])))
  | crash b k met h hm hk => exact .crash b k met (h.off hf (hS b (by simp [cbk]))) hm hk

/-- A function's acts in memory, in blocks below B. -/
def ActP (w : World) (B : Nat) (F : Value) (f : List ActV) : Prop :=
  ∃ (A : Option Addr) (c : Nat), F = .slice A f.length c ∧ (A = none → f = []) ∧ ∀ a, A = some a → a = ⟨a.block, a.off, none⟩ ∧ a.block < B ∧ a.block < w.heap.size ∧ ∀ (j : Nat) (x : ActV), f[j]? = some x → w.cell? ⟨a.block, a.off + j * 2, none⟩ = some (.int .u8 (x.1 : Int)) ∧ w.cell? ⟨a.block, a.off + j * 2 + 1, none⟩ = some (.int .i64 x.2)
theorem ActP.below {w w' : World} {B : Nat} {F : Value} {f : List ActV} (h : ActP w B F f) (hb : Below B w w') : ActP w' B F f := by
  obtain ⟨A, c, h1, h2, h3⟩ := h
  refine ⟨A, c, h1, h2, fun a ha => ?_⟩
  obtain ⟨k1, k2, k3, k4⟩ := h3 a ha
  refine ⟨k1, k2, Nat.lt_of_lt_of_le k3 hb.size, fun j x hx => ?_⟩
  rw [hb.cell (p := ⟨a.block, a.off + j * 2, none⟩) k2, hb.cell (p := ⟨a.block, a.off + j * 2 + 1, none⟩) k2]
  exact k4 j x hx
def ProgP (w : World) (B : Nat) (Pa : Value) (p : List (List ActV)) : Prop :=
  ∃ (b off c : Nat), Pa = .slice (some ⟨b, off, none⟩) p.length c ∧ b < B ∧ ∀ i f, p[i]? = some f → ∃ F, w.cell? ⟨b, off + i, none⟩ = some F ∧ ActP w B F f
theorem ProgP.below {w w' : World} {B : Nat} {Pa : Value} {p : List (List ActV)} (h : ProgP w B Pa p) (hb : Below B w w') : ProgP w' B Pa p := by
  obtain ⟨b, off, c, h1, h2, h3⟩ := h
  refine ⟨b, off, c, h1, h2, fun i f hf => ?_⟩
  obtain ⟨F, k1, k2⟩ := h3 i f hf
  exact ⟨F, (hb.cell (p := ⟨b, off + i, none⟩) h2).trans k1, k2.below hb⟩
def ptrO (bb : Option Nat) : Value := .pointer (bb.map fun b => ⟨b, 0, none⟩)
/-- The run because of which another one is run: its block, its own cause. -/
def ByW (w0 w : World) (B bm : Nat) (A : Option Addr) (bb : Option Nat) (by0 v : Value) (b : Option PanV) : Prop :=
  match bb with
  | none => v = .nilIface ∧ b = none
  | some rb => BlkL w rb [by0, v] ∧ CauseR w0 w v b ∧ B ≤ rb ∧ rb ≠ bm ∧ rb ∉ bkV A ∧ ∀ y ∈ cbk v, B ≤ y ∧ y ≠ bm ∧ y ≠ rb ∧ y ∉ bkV A
/-- What a run leaves. -/
def RunE (w0 W : World) (B bm : Nat) (Pa : Value) (A : Option Addr) (bb : Option Nat) (by0 v : Value) (R : RunR) (o : Value) (w' : World) : Prop :=
  ∃ A' c' v', CaW w' B bm Pa A' c' R.st ∧ CauseR w0 w' o R.out ∧ (∀ y ∈ cbk o, W.heap.size ≤ y ∧ y ∉ bkV A') ∧ ByW w0 w' B bm A' bb by0 v' R.by_ ∧ (v' = v ∨ v' = .nilIface) ∧ Off (bm :: bb.toList ++ bkV A) W w' ∧ ∀ y ∈ bkV A', y ∈ bkV A ∨ W.heap.size ≤ y
def RunC (w0 : World) (p : List (List ActV)) (d : Nat) : Prop :=
  ∀ (W : World) (B bm c : Nat) (Pa : Value) (A : Option Addr) (s : CaS) (i : Nat) (bb : Option Nat) (by0 v : Value) (b : Option PanV), Glb w0 W → 6 ≤ B → B ≤ bm → CaW W B bm Pa A c s → ProgP W B Pa p → i < p.length → p.length ≤ i + d → ByW w0 W B bm A bb by0 v b →
    Calls Tryd.prog 27 #[.pointer (some ⟨bm, 0, none⟩), .int .i64 (i : Int), ptrO bb] W fun e w' => ∃ o, e = .returned o ∧ RunE w0 W B bm Pa A bb by0 v (runV p d i b s) o w'
end Go.Proofs.YtifldnkcheobhaaDoor
