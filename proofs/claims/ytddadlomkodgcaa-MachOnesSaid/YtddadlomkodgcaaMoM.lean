/- The state of MachOnes. -/
import Derived.Test.YtddadlomkodgcaaMaJ
import Derived.Test.YtddadlomkodgcaaOpArg
import Derived.Test.YtddadlomkodgcaaClamps
import Derived.Test.YtddadlomkodgcaaCatM
namespace Go.Proofs.Ytddadlomkodgcaa
open Go.RowKit
set_option maxRecDepth 100000
set_option linter.unusedVariables false

structure MoS (w : World) (b bw bs n : Nat) (wr : World) (i k : Nat) (ws us : List Nat) (clk : Nat) : Prop where
  m : ∃ ring, MachS wr b bw n ws (clk : Int) k ring
  was : BlkL wr bs (us.map U)
  ul : us.length = n
  ki : k ≤ i
  cl : clk ≤ 4611686018427387903
  bel : Below w.heap.size w wr
  hb : w.heap.size ≤ b
  hbw : w.heap.size ≤ bw
  hbs : w.heap.size ≤ bs
  ne1 : bs ≠ b
  ne2 : bs ≠ bw
section
variable {w wr w' : World} {b bw bs n i k clk : Nat} {ws us : List Nat}
theorem MoS.alloc (h : MoS w b bw bs n wr i k ws us clk) (o : Obj) : MoS w b bw bs n (wr.alloc o) i k ws us clk :=
  ⟨by obtain ⟨r, hm⟩ := h.m; exact ⟨r, hm.alloc o⟩, h.was.alloc o, h.ul, h.ki, h.cl, h.bel.alloc h.bel.size o, h.hb, h.hbw, h.hbs, h.ne1, h.ne2⟩
theorem MoS.drew (h : MoS w b bw bs n wr i k ws us clk) : MoS w b bw bs n wr.drew i k ws us clk :=
  ⟨by obtain ⟨r, hm⟩ := h.m; exact ⟨r, hm.drew⟩, h.was.drew, h.ul, h.ki, h.cl, h.bel.drew, h.hb, h.hbw, h.hbs, h.ne1, h.ne2⟩
theorem MoS.drewN (h : MoS w b bw bs n wr i k ws us clk) (t : Nat) : MoS w b bw bs n (wr.drewN t) i k ws us clk := by
  have hof : Off [] wr (wr.drewN t) := ⟨rfl, rfl, rfl, Nat.le_refl _, fun _ _ _ => rfl⟩
  exact ⟨by obtain ⟨r, hm⟩ := h.m; exact ⟨r, hm.off hof (by simp) (by simp)⟩, h.was.off hof (by simp), h.ul, h.ki, h.cl, ⟨h.bel.os, h.bel.tape, h.bel.output, h.bel.size, h.bel.block⟩, h.hb, h.hbw, h.hbs, h.ne1, h.ne2⟩
theorem MoS.next (h : MoS w b bw bs n wr i k ws us clk) : MoS w b bw bs n wr (i + 1) k ws us clk :=
  ⟨h.m, h.was, h.ul, Nat.le_succ_of_le h.ki, h.cl, h.bel, h.hb, h.hbw, h.hbs, h.ne1, h.ne2⟩
theorem MoS.below (h : MoS w b bw bs n wr i k ws us clk) (hb : Below wr.heap.size wr w') : MoS w b bw bs n w' i k ws us clk := by
  have hof : Off [] wr w' := Off.of_below hb
  exact ⟨by obtain ⟨r, hm⟩ := h.m; exact ⟨r, hm.off hof (by simp) (by simp)⟩, h.was.below hb, h.ul, h.ki, h.cl, h.bel.trans (hb.mono h.bel.size), h.hb, h.hbw, h.hbs, h.ne1, h.ne2⟩
theorem MoS.acc (h : MoS w b bw bs n wr i k ws us clk) {ws' : List Nat} {clk' k' : Nat} (hm : ∃ ring, MachS w' b bw n ws' (clk' : Int) k' ring) (hk : k' ≤ k + 1) (hf : Off [b, bw] wr w') (hc : clk' ≤ 4611686018427387903) :
    MoS w b bw bs n w' (i + 1) k' ws' us clk' :=
  ⟨hm, h.was.off hf (by simp; exact ⟨h.ne1, h.ne2⟩), h.ul, by have := h.ki; omega, hc, hf.up2 h.bel (by intro x hx; simp at hx; have := h.hb; have := h.hbw; omega), h.hb, h.hbw, h.hbs, h.ne1, h.ne2⟩
/-- A store into the law's own list. -/
theorem MoS.put (h : MoS w b bw bs n wr i k ws us clk) {j : Nat} (hj : j < n) (x : Nat) : MoS w b bw bs n (wr.setCell ⟨bs, j, none⟩ (.int .u64 (x : Int))) i k ws (us.set j x) clk := by
  have hof : Off [bs] wr (wr.setCell ⟨bs, j, none⟩ (.int .u64 (x : Int))) := (Off.refl _ wr).setCell (by simp) _
  refine ⟨by obtain ⟨r, hm⟩ := h.m; exact ⟨r, hm.off hof (by simpa using Ne.symm h.ne1) (by simpa using Ne.symm h.ne2)⟩, ?_, by simp [h.ul], h.ki, h.cl, h.bel.setCell (p := ⟨bs, j, none⟩) h.hbs _, h.hb, h.hbw, h.hbs, h.ne1, h.ne2⟩
  rw [List.map_set]
  exact h.was.set j _ (by simp [h.ul]; exact hj)
/-- A store into another block of the law's own. -/
theorem MoS.other (h : MoS w b bw bs n wr i k ws us clk) {z : Nat} (hz : w.heap.size ≤ z) (n1 : z ≠ b) (n2 : z ≠ bw) (n3 : z ≠ bs) (j : Nat) (u : Value) : MoS w b bw bs n (wr.setCell ⟨z, j, none⟩ u) i k ws us clk := by
  have hof : Off [z] wr (wr.setCell ⟨z, j, none⟩ u) := (Off.refl _ wr).setCell (by simp) _
  exact ⟨by obtain ⟨r, hm⟩ := h.m; exact ⟨r, hm.off hof (by simpa using Ne.symm n1) (by simpa using Ne.symm n2)⟩, h.was.off hof (by simpa using Ne.symm n3), h.ul, h.ki, h.cl, h.bel.setCell (p := ⟨z, j, none⟩) hz _, h.hb, h.hbw, h.hbs, h.ne1, h.ne2⟩
theorem MoS.lts (h : MoS w b bw bs n wr i k ws us clk) : b < wr.heap.size ∧ bw < wr.heap.size ∧ bs < wr.heap.size := by
  obtain ⟨r, hm⟩ := h.m
  exact ⟨hm.blk.lt, hm.wd.lt, h.was.lt⟩
theorem MoS.uat (h : MoS w b bw bs n wr i k ws us clk) {j : Nat} (hj : j < n) : wr.cell? ⟨bs, j, none⟩ = some (.int .u64 (us.getD j 0 : Nat)) :=
  h.was.cell j _ (by rw [List.getElem?_map, List.getElem?_eq_getElem (by rw [h.ul]; exact hj)]; simp [List.getD_eq_getElem?_getD, h.ul, hj])
theorem MoS.uf (h : MoS w b bw bs n wr i k ws us clk) {j : Nat} (hj : j < n) : wr.frozen? ⟨bs, j, none⟩ = false := h.was.froz j (by simp [h.ul]; exact hj)
end
theorem mcount_eq (w : World) (b bw n : Nat) (ws : List Nat) (clk : Int) (k : Nat) (h : ∃ ring, MachS w b bw n ws clk k ring) (z : Int) (hz : (k : Int) = z) :
    Calls Try.prog 15 #[.pointer (some ⟨b, 0, none⟩)] w fun e w' => e = .returned (.int .i64 z) ∧ w = w' := by
  subst hz
  obtain ⟨r, hm⟩ := h
  exact mcount_any w b bw n ws clk k r hm
theorem mcount_q (w : World) (b bw n : Nat) (ws : List Nat) (clk : Int) (k : Nat) (h : ∃ ring, MachS w b bw n ws clk k ring) (z : Int) (hz : (k : Int) = z) (t : Nat) :
    Calls Try.prog 15 #[.pointer (some ⟨b, 0, none⟩)] (w.drewN t) fun e w' => e = .returned (.int .i64 z) ∧ w' = w.drewN t := by
  have hof : Off [] w (w.drewN t) := ⟨rfl, rfl, rfl, Nat.le_refl _, fun _ _ _ => rfl⟩
  obtain ⟨r, hm⟩ := h
  exact (mcount_eq _ b bw n ws clk k ⟨r, hm.off hof (by simp) (by simp)⟩ z hz).mono fun e w' ⟨h1, h2⟩ => ⟨h1, h2.symm⟩
theorem word_eq (w : World) (b bw n : Nat) (ws : List Nat) (clk : Int) (k : Nat) (h : ∃ ring, MachS w b bw n ws clk k ring) (j : Nat) (hj : j < n) (x : Nat) (hx : ws.getD j 0 = x) :
    Calls Try.prog 22 #[.pointer (some ⟨b, 0, none⟩), .int .i64 (j : Int)] w fun e w' => e = .returned (.tuple #[.int .u64 (x : Int), .int .i64 0]) ∧ w = w' := by
  subst hx
  obtain ⟨r, hm⟩ := h
  exact word_at w b bw n ws clk k r hm j hj
theorem inB_of {q n : Nat} (h : q < n) : inB (q : Int) (n : Int) = true := inB_iff.mpr (by omega)
/-- What a number picks of n. -/
def pickV (x : Int) (n : Nat) : Nat := ((x % 18446744073709551616) % (n : Int)).toNat
theorem pickV_lt (x : Int) {n : Nat} (h : 0 < n) : pickV x n < n := by
  unfold pickV
  have := Int.emod_lt_of_pos (x % 18446744073709551616) (show (0 : Int) < (n : Int) by omega)
  have := Int.emod_nonneg (x % 18446744073709551616) (show (n : Int) ≠ 0 by omega)
  omega
theorem pickV_eq (x : Int) {n : Nat} (h : 0 < n) (h2 : n ≤ 4096) : wrap64 ((IntKind.u64.wrap x).tmod (n : Int)) = (pickV x n : Int) := by
  have h1 := Int.emod_lt_of_pos (x % 18446744073709551616) (show (0 : Int) < (n : Int) by omega)
  have h3 := Int.emod_nonneg (x % 18446744073709551616) (show (n : Int) ≠ 0 by omega)
  rw [u64w, Int.tmod_eq_emod_of_nonneg (by omega), IntWalk.wrap64_in _ ⟨by omega, by omega⟩]
  unfold pickV; omega
end Go.Proofs.Ytddadlomkodgcaa
