/- ShardVersions: its mathematics and state; Start of one that is under way. -/
import Derived.Test.YtpjgpiiibgogeaaPkS
namespace Go.Proofs.Ytpjgpiiibgogeaa
open Go.RowKit
set_option maxRecDepth 100000
set_option linter.unusedVariables false

theorem startBusyC (w0 w : World) (s b bw : Nat) (X : List Nat) (k v : Nat) (l : List Ent) (nx : Nat → Nx) (h : ShC w0 w s b bw X k v l nx) (i : Nat) (hi : i < 64) (hx : isNx (nx i) = true) (op : Nat) (h1 : 1 ≤ op) (h4 : op ≤ 4) (A : Option Addr) (n c : Nat) (hn : n ≤ 256) (x : Int) (hv : 0 ≤ x ∧ x ≤ 4611686018427387903) :
    Calls Try.prog 36 #[.pointer (some ⟨s, 0, none⟩), .int .i64 (i : Int), .int .u8 (op : Int), .slice A n c, .int .i64 x] w fun e w' => e = .returned (.int .i64 9) ∧ w = w' := by
  have hw : inB (i : Int) 64 = true := inB_iff.mpr (by omega)
  have hp := pendC w0 w s b bw X k v l nx h i hi _ rfl
  rw [hx] at hp
  rcases (by omega : op = 2 ∨ op = 3 ∨ (op = 1 ∨ op = 4)) with e | e | e
  · exact start_busy_a w s i op A n c x hw e (isTick_iff.mpr hv) hn (Lib.hid hp)
  · exact start_busy_b w s i op A n c x hw e (isTick_iff.mpr hv) hn (Lib.hid hp)
  · exact start_busy_c w s i op A n c x hw e hn (Lib.hid hp)

def opN : Nx → Nat
  | .none => 0
  | .read op _ _ => op
  | .write op _ _ _ _ _ => op
def goodN : Nx → Prop
  | .write op _ _ _ _ r => chgV op r = true
  | _ => True
theorem chgV_iff {op : Nat} {r : AnsV} : chgV op r = true ↔ op ≠ 1 ∧ r.E = 0 := by
  unfold chgV; simp
theorem step_good (v : Nat) (l : List Ent) (x : Nx) (hg : goodN x) (hp : isNx x = true) :
    goodN (stepX v l x).y ∧ (isNx (stepX v l x).y = true → opN (stepX v l x).y = opN x) ∧
    (((stepX v l x).q.d = false ∧ (stepX v l x).v = v) ∨ ((stepX v l x).q.d = true ∧ (stepX v l x).q.E = 0 ∧ opN x ≠ 1 ∧ (stepX v l x).v = v + 1) ∨ ((stepX v l x).q.d = true ∧ (stepX v l x).q.E ≠ 0 ∧ (stepX v l x).v = v) ∨ ((stepX v l x).q.d = true ∧ (stepX v l x).q.E = 0 ∧ opN x = 1 ∧ (stepX v l x).v = v)) := by
  cases x with
  | none => simp [isNx] at hp
  | read op ks z =>
    rcases hc : chgV op (ofV op ks z l).1 with _ | _
    · have hn : ¬ (op ≠ 1 ∧ (ofV op ks z l).1.E = 0) := fun h => by rw [chgV_iff.mpr h] at hc; cases hc
      have e : stepX v l (.read op ks z) = ⟨⟨true, (ofV op ks z l).1.E, (ofV op ks z l).1.N⟩, v, l, .none⟩ := by simp [stepX, rdRes, rdNx, hc]
      rw [e]
      refine ⟨trivial, by simp [isNx], ?_⟩
      by_cases hE : (ofV op ks z l).1.E = 0
      · have : op = 1 := by
          rcases Nat.lt_or_ge op 1 with h | h
          · exact absurd ⟨by omega, hE⟩ hn
          · rcases Nat.lt_or_ge 1 op with h' | h'
            · exact absurd ⟨by omega, hE⟩ hn
            · omega
        exact .inr (.inr (.inr ⟨rfl, by simp [hE], this, rfl⟩))
      · exact .inr (.inr (.inl ⟨rfl, by simpa using hE, rfl⟩))
    · have e : stepX v l (.read op ks z) = ⟨⟨false, 0, 0⟩, v, l, .write op ks z v (ofV op ks z l).2 (ofV op ks z l).1⟩ := by simp [stepX, rdRes, rdNx, hc]
      rw [e]
      exact ⟨hc, fun _ => rfl, .inl ⟨rfl, rfl⟩⟩
  | write op ks z num made r =>
    have hc := chgV_iff.mp hg
    by_cases hv : v = num
    · have e : stepX v l (.write op ks z num made r) = ⟨⟨true, r.E, r.N⟩, v + 1, made, .none⟩ := if_pos hv
      rw [e]
      exact ⟨trivial, by simp [isNx], .inr (.inl ⟨rfl, by simp [hc.2], hc.1, rfl⟩)⟩
    · have e : stepX v l (.write op ks z num made r) = ⟨⟨false, 0, 0⟩, v, l, .read op ks z⟩ := if_neg hv
      rw [e]
      exact ⟨trivial, fun _ => rfl, .inl ⟨rfl, rfl⟩⟩

/-- The state of the law ShardVersions: its shard, and the block of the calls' kinds. -/
structure VsS (w wr : World) (s b bw O k v : Nat) (l : List Ent) (nx : Nat → Nx) (opf : Nat → Nat) : Prop where
  c : ShC w wr s b bw [O] k v l nx
  ob : BlkF wr O 4 (fun j => .int .u8 (opf j : Int))
  on : O ∉ [s, b, bw]
  oge : w.heap.size ≤ O
  good : ∀ j, j < 4 → goodN (nx j) ∧ (isNx (nx j) = true → opN (nx j) = opf j)
  o255 : ∀ j, opf j ≤ 255
section
variable {w wr w' : World} {s b bw O k v k' v' : Nat} {l l' : List Ent} {nx nx' : Nat → Nx} {opf : Nat → Nat}
theorem VsS.below (h : VsS w wr s b bw O k v l nx opf) (hb : Below wr.heap.size wr w') : VsS w w' s b bw O k v l nx opf :=
  ⟨h.c.below hb, h.ob.off (Off.of_below (S := []) hb) (by simp), h.on, h.oge, h.good, h.o255⟩
theorem VsS.alloc (h : VsS w wr s b bw O k v l nx opf) (o : Obj) : VsS w (wr.alloc o) s b bw O k v l nx opf := h.below ((Below.refl _ _).alloc (Nat.le_refl _) _)
end
end Go.Proofs.Ytpjgpiiibgogeaa
