/- Contracts of package pack's reader. -/
import Derived.Test.YtndgladfcogiiaaFrA
import Derived.Deep.QuietTactic
import Derived.WalkSmall
namespace Go.Proofs.Ytndgladfcogiiaa
open Go.RowKit
set_option maxRecDepth 100000
set_option linter.unusedVariables false

def frB (A : Option Addr) (c k : Nat) : Option Addr := if c = k then A else A.map (·.add k)
theorem elemB : Try.prog.underlying 22 = some (.slice (Try.prog.elem 22)) := by kernel_rfl
theorem sizeB (w : World) : (sizeOf (Try.prog.elem 22)).run Try.prog w = .ok 1 w := by kernel_rfl
theorem run_fromB2 (w : World) (A : Option Addr) (n c k : Nat) (hk : k ≤ n) : (Instr.slice 22 (.slice A n c) (some (.int .i64 (k : Int))) none none).run Try.prog w = .ok (.slice (frB A c k) (n - k) (c - k)) w := by
  rw [run_slice_l (ht := elemB) (h0 := by omega) (h1 := by omega), sizeB]
  simp [Result.andThen, sliced, frB]
theorem Arg.fromB {w : World} {B n c : Nat} {A : Option Addr} {zs : List Nat} (h : Arg w B A n c zs) {k : Nat} (hk : k ≤ n) : Arg w B (frB A c k) (n - k) (c - k) (zs.drop k) := h.from_ hk

theorem bkV_frB (A : Option Addr) (c k : Nat) : bkV (frB A c k) = bkV A := by
  unfold frB
  split
  · rfl
  · cases A with
    | none => rfl
    | some a => simp only [Option.map_some, bkV]; unfold Addr.add; split <;> rfl
theorem Arg.off {w w' : World} {B n c : Nat} {A : Option Addr} {zs S : List Nat} (h : Arg w B A n c zs) (hB : B ≤ w.heap.size) (hf : Off S w w') (hS : ∀ y ∈ bkV A, y ∉ S) : Arg w' B A n c zs :=
  ⟨h.len, h.le, h.cap, h.byte, h.none_, fun hn => by
    obtain ⟨b, off, e, hb, hc⟩ := h.at_ hn
    refine ⟨b, off, e, hb, fun k hk => ?_⟩
    rw [hf.cell (p := ⟨b, off + k, none⟩) (by show b < _; omega) (hS b (by rw [e]; simp [bkV]))]
    exact hc k hk⟩

/-- What has panicked. -/
def Fell (w : World) (e : Ending) (w' : World) : Prop := e = .panicked [{ v := .iface 186 (.agg #[]), recovered := false }] ∧ w = w'

theorem pread_any (w : World) (A : Option Addr) (n c : Nat) : Calls Try.prog 86 #[.slice A n c] w fun e w' =>
    e = .returned (.pointer (some ⟨w.heap.size, 0, none⟩)) ∧ w' = w.alloc (.cells #[.slice A n c] 167) := by
  go_enter Try.func86, Try.ntmps86
  go_wp2
  go_ret
  exact ⟨rfl, rfl⟩

theorem prest_any (w : World) (sb : Nat) (A : Option Addr) (n c : Nat) (h : BlkL w sb [.slice A n c]) : Calls Try.prog 90 #[.pointer (some ⟨sb, 0, none⟩)] w fun e w' =>
    e = .returned (.slice A n c) ∧ w = w' := by
  have h0 := h.cell 0 _ rfl
  go_enter Try.func90, Try.ntmps90
  go_wp2
  go_ret
  exact ⟨rfl, rfl⟩

theorem take_fell (w : World) (sb m : Nat) (A : Option Addr) (n c : Nat) (h : BlkL w sb [.slice A n c]) (hm : n < m) : Calls Try.prog 124 #[.pointer (some ⟨sb, 0, none⟩), .int .i64 (m : Int)] w (Fell w) := by
  have h0 := h.cell 0 _ rfl
  have hb : decide (n < m) = true := by simpa using hm
  go_enter Try.func124, Try.ntmps124
  go_wp2
  exact ⟨rfl, rfl, rfl⟩

theorem take_ok (w : World) (sb m : Nat) (A : Option Addr) (n c : Nat) (h : BlkL w sb [.slice A n c]) (hm : m ≤ n) (hnc : n ≤ c) : Calls Try.prog 124 #[.pointer (some ⟨sb, 0, none⟩), .int .i64 (m : Int)] w fun e w' =>
    e = .returned (.slice A m c) ∧ w' = w.setCell ⟨sb, 0, none⟩ (.slice (frB A c m) (n - m) (c - m)) := by
  have h0 := h.cell 0 _ rfl
  have hf := h.froz 0 (by simp)
  have hlt := h.lt
  have hb : decide (n < m) = false := by simpa using hm
  have hmc : m ≤ c := by omega
  have hs2 : ∀ w, (Instr.slice 22 (.slice A n c) (some (.int .i64 (m : Int))) none none).run Try.prog w = .ok (.slice (frB A c m) (n - m) (c - m)) w := fun w => run_fromB2 w A n c m hm
  go_enter Try.func124, Try.ntmps124
  go_wp2
  go_ret
  exact ⟨rfl, rfl⟩

theorem number_fell (w : World) (sb m : Nat) (A : Option Addr) (n c : Nat) (h : BlkL w sb [.slice A n c]) (hm : n < m) : Calls Try.prog 123 #[.pointer (some ⟨sb, 0, none⟩), .int .i64 (m : Int)] w (Fell w) := by
  have H := Lib.hid h
  have HM := Lib.hid hm
  clear h hm
  go_enter Try.func123, Try.ntmps123
  go_wp2_with (with_reducible refine (take_fell w sb m A n c H.out HM.out).mono ?_)
  rintro e w' ⟨rfl, rfl⟩
  exact ⟨rfl, rfl, rfl⟩

theorem number_ok (w : World) (B sb m : Nat) (A : Option Addr) (n c : Nat) (zs : List Nat) (h : BlkL w sb [.slice A n c]) (ha : Arg w B A n c zs) (hB : B ≤ sb) (hm : m ≤ n) (hm8 : m ≤ 8) :
    Calls Try.prog 123 #[.pointer (some ⟨sb, 0, none⟩), .int .i64 (m : Int)] w fun e w' =>
      e = .returned (.int .u64 (Tk.numV (zs.take m) : Nat)) ∧ w' = w.setCell ⟨sb, 0, none⟩ (.slice (frB A c m) (n - m) (c - m)) := by
  have H := Lib.hid h
  have HM := Lib.hid hm
  have HC := Lib.hid ha.le
  have HA := Lib.hid ((ha.take hm).below (w' := w.setCell ⟨sb, 0, none⟩ (.slice (frB A c m) (n - m) (c - m))) ((Below.refl B w).setCell hB _))
  clear h hm ha
  go_enter Try.func123, Try.ntmps123
  go_wp2_with (with_reducible refine (take_ok w sb m A n c H.out HM.out HC.out).mono ?_)
  rintro e w' ⟨rfl, rfl⟩
  go_wp2_with (with_reducible refine (number_any _ B A m c _ hm8 HA.out).mono ?_)
  rintro e w' ⟨rfl, rfl⟩
  go_wp2
  go_ret
  exact ⟨rfl, rfl⟩
end Go.Proofs.Ytndgladfcogiiaa
