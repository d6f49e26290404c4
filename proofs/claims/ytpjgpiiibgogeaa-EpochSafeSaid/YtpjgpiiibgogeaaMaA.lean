/- Contracts: isSize, isWho, isPlace, isWord of mach; isWho of count. -/
import Derived.Test.YtpjgpiiibgogeaaOff
import Derived.IntWalk
namespace Go.Proofs.Ytpjgpiiibgogeaa
open Go.RowKit
set_option maxRecDepth 100000
set_option linter.unusedVariables false

def inB (n s : Int) : Bool := decide (0 ≤ n) && decide (n < s)
theorem inB_iff {n s : Int} : inB n s = true ↔ 0 ≤ n ∧ n < s := by unfold inB; simp

theorem isPlace_any (w : World) (n s : Int) : Calls Try.prog 108 #[.int .i64 n, .int .i64 s] w fun e w' => e = .returned (.bool (inB n s)) ∧ w = w' := by
  go_enter Try.func108, Try.ntmps108
  rcases h : decide (0 ≤ n) with _ | _
  · have e : inB n s = false := by unfold inB; rw [h]; rfl
    go_wp2
    go_ret
    exact ⟨by rw [e]; rfl, rfl⟩
  · have e : inB n s = decide (n < s) := by unfold inB; rw [h]; rfl
    go_wp2
    go_ret
    exact ⟨by rw [e]; rfl, rfl⟩
theorem isWho_any (w : World) (n : Int) : Calls Try.prog 84 #[.int .i64 n] w fun e w' => e = .returned (.bool (inB n 64)) ∧ w = w' := by
  have hp := isPlace_any
  go_enter Try.func84, Try.ntmps84
  go_wp2_with fail
  with_reducible refine (hp _ _ _).mono ?_
  rintro e w1 ⟨rfl, hw⟩
  subst hw
  go_wp2
  go_ret
  exact ⟨rfl, rfl⟩
theorem isSize_any (w : World) (n : Int) : Calls Try.prog 77 #[.int .i64 n] w fun e w' => e = .returned (.bool (decide (1 ≤ n) && decide (n ≤ 4096))) ∧ w = w' := by
  go_enter Try.func77, Try.ntmps77
  rcases h : decide (1 ≤ n) with _ | _
  · go_wp2
    go_ret
    exact ⟨rfl, rfl⟩
  · go_wp2
    go_ret
    exact ⟨by simp, rfl⟩
/-- The block of a Mach: its words, clock, number of accesses, and the ring of the last ones. -/
structure MachS (w : World) (b bw n : Nat) (ws : List Nat) (clk : Int) (k : Nat) (ring : List Value) : Prop where
  blk : BlkL w b (.slice (some ⟨bw, 0, none⟩) n n :: .int .i64 clk :: .int .i64 (k : Int) :: ring)
  wd : BlkL w bw (ws.map U)
  len : ws.length = n
  rlen : ring.length = 384
  ne : b ≠ bw
section
variable {w w' : World} {b bw n : Nat} {ws : List Nat} {clk : Int} {k : Nat} {ring : List Value} {S : List Nat}
theorem MachS.off (h : MachS w b bw n ws clk k ring) (hb : Off S w w') (h1 : b ∉ S) (h2 : bw ∉ S) : MachS w' b bw n ws clk k ring :=
  ⟨h.blk.off hb h1, h.wd.off hb h2, h.len, h.rlen, h.ne⟩
theorem MachS.c0 (h : MachS w b bw n ws clk k ring) : w.cell? ⟨b, 0, none⟩ = some (.slice (some ⟨bw, 0, none⟩) n n) := h.blk.cell 0 _ rfl
theorem MachS.c1 (h : MachS w b bw n ws clk k ring) : w.cell? ⟨b, 1, none⟩ = some (.int .i64 clk) := h.blk.cell 1 _ rfl
theorem MachS.c2 (h : MachS w b bw n ws clk k ring) : w.cell? ⟨b, 2, none⟩ = some (.int .i64 (k : Int)) := h.blk.cell 2 _ rfl
theorem MachS.f (h : MachS w b bw n ws clk k ring) {i : Nat} (hi : i < 387) : w.frozen? ⟨b, i, none⟩ = false := h.blk.froz i (by simp [h.rlen]; omega)
theorem MachS.rc (h : MachS w b bw n ws clk k ring) {i : Nat} (hi : i < 384) : w.cell? ⟨b, 3 + i, none⟩ = some (ring.getD i (.bool false)) := h.blk.cell (3 + i) _ (by
  rw [Nat.add_comm]; simp [List.getD_eq_getElem?_getD, h.rlen, hi])
theorem MachS.wat (h : MachS w b bw n ws clk k ring) {i : Nat} (hi : i < n) : w.cell? ⟨bw, i, none⟩ = some (.int .u64 (ws.getD i 0 : Nat)) := h.wd.cell i _ (by
  rw [List.getElem?_map, List.getElem?_eq_getElem (by rw [h.len]; exact hi)]; simp [List.getD_eq_getElem?_getD, h.len, hi])
theorem set3 {α : Type} (x y z : α) (r : List α) (i : Nat) (v : α) : (x :: y :: z :: r).set (3 + i) v = x :: y :: z :: r.set i v := by
  rw [Nat.add_comm 3 i]; rfl
theorem MachS.setRing (h : MachS w b bw n ws clk k ring) {i : Nat} (hi : i < 384) (v : Value) : MachS (w.setCell ⟨b, 3 + i, none⟩ v) b bw n ws clk k (ring.set i v) :=
  ⟨set3 _ _ _ ring i v ▸ h.blk.set (3 + i) v (by simp [h.rlen]; omega), h.wd.other b (3 + i) v h.ne, h.len, by simp [h.rlen], h.ne⟩
theorem MachS.setRing' (h : MachS w b bw n ws clk k ring) {i j : Nat} (hi : i < 384) (hj : j = 3 + i) (v : Value) : MachS (w.setCell ⟨b, j, none⟩ v) b bw n ws clk k (ring.set i v) := by
  subst hj; exact h.setRing hi v
theorem MachS.put6 (h : MachS w b bw n ws clk k ring) {q : Nat} (hq : q < 64) (v0 v1 v2 v3 v4 v5 : Value) :
    MachS ((((((w.setCell ⟨b, 3 + q * 6, none⟩ v0).setCell ⟨b, 3 + q * 6 + 1, none⟩ v1).setCell ⟨b, 3 + q * 6 + 2, none⟩ v2).setCell ⟨b, 3 + q * 6 + 3, none⟩ v3).setCell ⟨b, 3 + q * 6 + 4, none⟩ v4).setCell ⟨b, 3 + q * 6 + 5, none⟩ v5) b bw n ws clk k
      ((((((ring.set (q * 6) v0).set (q * 6 + 1) v1).set (q * 6 + 2) v2).set (q * 6 + 3) v3).set (q * 6 + 4) v4).set (q * 6 + 5) v5) :=
  (((((h.setRing' (i := q * 6) (by omega) rfl v0).setRing' (i := q * 6 + 1) (by omega) (by omega) v1).setRing' (i := q * 6 + 2) (by omega) (by omega) v2).setRing' (i := q * 6 + 3) (by omega) (by omega) v3).setRing' (i := q * 6 + 4) (by omega) (by omega) v4).setRing' (i := q * 6 + 5) (by omega) (by omega) v5
theorem MachS.setCount (h : MachS w b bw n ws clk k ring) (k' : Nat) : MachS (w.setCell ⟨b, 2, none⟩ (.int .i64 (k' : Int))) b bw n ws clk k' ring :=
  ⟨h.blk.set 2 (.int .i64 (k' : Int)) (by simp), h.wd.other b 2 _ h.ne, h.len, h.rlen, h.ne⟩
theorem MachS.setClk (h : MachS w b bw n ws clk k ring) (c' : Int) : MachS (w.setCell ⟨b, 1, none⟩ (.int .i64 c')) b bw n ws c' k ring :=
  ⟨h.blk.set 1 (.int .i64 c') (by simp), h.wd.other b 1 _ h.ne, h.len, h.rlen, h.ne⟩
theorem MachS.setWord (h : MachS w b bw n ws clk k ring) {i : Nat} (hi : i < n) (x : Nat) : MachS (w.setCell ⟨bw, i, none⟩ (.int .u64 (x : Int))) b bw n (ws.set i x) clk k ring :=
  ⟨h.blk.other bw i _ (Ne.symm h.ne), by rw [List.map_set]; exact h.wd.set i _ (by simp [h.len]; omega), by simp [h.len], h.rlen, h.ne⟩
theorem MachS.alloc (h : MachS w b bw n ws clk k ring) (o : Obj) : MachS (w.alloc o) b bw n ws clk k ring := h.off ((Off.refl [] w).alloc o) (by simp) (by simp)
theorem MachS.drew (h : MachS w b bw n ws clk k ring) : MachS w.drew b bw n ws clk k ring := h.off (Off.refl [] w).drew (by simp) (by simp)
theorem MachS.wf (h : MachS w b bw n ws clk k ring) {i : Nat} (hi : i < n) : w.frozen? ⟨bw, i, none⟩ = false := h.wd.froz i (by simp [h.len]; omega)
end

theorem isWord_nil (w : World) (i : Int) : Calls Try.prog 83 #[.pointer none, .int .i64 i] w fun e w' => e = .returned (.bool false) ∧ w = w' := by
  go_enter Try.func83, Try.ntmps83
  go_wp2
  go_ret
  exact ⟨rfl, rfl⟩
theorem isWord_any (w : World) (b : Nat) (A : Option Addr) (n : Nat) (i : Int) (hc : w.cell? ⟨b, 0, none⟩ = some (.slice A n n)) : Calls Try.prog 83 #[.pointer (some ⟨b, 0, none⟩), .int .i64 i] w fun e w' => e = .returned (.bool (inB i n)) ∧ w = w' := by
  have hp := isPlace_any
  go_enter Try.func83, Try.ntmps83
  go_wp2_with fail
  with_reducible refine (hp _ _ _).mono ?_
  rintro e w1 ⟨rfl, hw⟩
  subst hw
  go_wp2
  go_ret
  exact ⟨rfl, rfl⟩
end Go.Proofs.Ytpjgpiiibgogeaa
