/- Contract: the law's awake of layer 2. -/
import Derived.Test.YtndgladfcogiiaaSpare
import Derived.Lib.SlBytesConst
namespace Go.Proofs.Ytndgladfcogiiaa
open Go.RowKit

theorem below_drews {B : Nat} {a w : World} (h : Below B a w) (n : Nat) : Below B a (w.drewN n) := ⟨h.os, h.tape, h.output, h.size, h.block⟩

/-- A block of bytes that a call laid, marked or not, read from its head on. -/
theorem arg_blk (w : World) (xs : List Nat) (fr : Nat × Nat) (hx : ∀ d ∈ xs, d < 256) (hn : xs.length ≤ maxLen) : Arg (w.alloc (.cells (xs.map V8).toArray 5 fr)) (w.heap.size + 1) (some ⟨w.heap.size, 0, none⟩) xs.length xs.length xs := by
  refine ⟨rfl, Nat.le_refl _, hn, hx, (fun h => by cases h), fun _ => ⟨w.heap.size, 0, rfl, by omega, fun k hk => ?_⟩⟩
  rw [Nat.zero_add, World.cell?_alloc_mark]
  simp [V8, List.getD_eq_getElem?_getD, hk]

theorem lit1 (w : World) (x : Nat) (fr : Nat × Nat) (hx : x < 256) : Arg (w.alloc (.cells #[.int .u8 (x : Int)] 5 fr)) (w.heap.size + 1) (some ⟨w.heap.size, 0, none⟩) 1 1 [x] :=
  arg_blk w [x] fr (by simpa using hx) (by simp [maxLen])
theorem lit2 (w : World) (x y : Nat) (fr : Nat × Nat) (hx : x < 256) (hy : y < 256) : Arg (w.alloc (.cells #[.int .u8 (x : Int), .int .u8 (y : Int)] 5 fr)) (w.heap.size + 1) (some ⟨w.heap.size, 0, none⟩) 2 2 [x, y] :=
  arg_blk w [x, y] fr (by simp; omega) (by simp [maxLen])
theorem lit3 (w : World) (x y z : Nat) (fr : Nat × Nat) (hx : x < 256) (hy : y < 256) (hz : z < 256) : Arg (w.alloc (.cells #[.int .u8 (x : Int), .int .u8 (y : Int), .int .u8 (z : Int)] 5 fr)) (w.heap.size + 1) (some ⟨w.heap.size, 0, none⟩) 3 3 [x, y, z] :=
  arg_blk w [x, y, z] fr (by simp; omega) (by simp [maxLen])

theorem sum_a : sumV [97] = 12638187200555641996 := by decide +kernel
theorem shard_a : sumV [97] % 16 = 12 := by decide +kernel

abbrev blkA : Obj := .cells #[.int .u8 97] 5 (1, 2)
abbrev blkB : Obj := .cells #[.int .u8 98] 5 (1, 2)
abbrev blkAB : Obj := .cells #[.int .u8 97, .int .u8 98] 5 (2, 3)
abbrev blkId : Obj := .cells #[.int .u8 3, .int .u8 97, .int .u8 98] 5

theorem aw_ident (w : World) : Calls Try.prog 125 #[.int .i64 3, .slice (some ⟨w.heap.size, 0, none⟩) 2 2] (w.alloc blkAB)
    fun e w' => ∃ A c, e = .returned (.tuple #[.slice A 3 c, .int .i64 0]) ∧ OwnB w' w.heap.size A 3 c [3, 97, 98] ∧ Below w.heap.size w w' :=
  (ident_ok (w.alloc blkAB) (w.heap.size + 1) (some ⟨w.heap.size, 0, none⟩) 3 2 2 [97, 98] (lit2 w 97 98 _ (by omega) (by omega)) (by simp) (by omega) (by omega)).mono
    fun _ _ ⟨A, c, e, ho, hb⟩ => ⟨A, c, e, ho.mono (by simp), ((Below.refl _ w).alloc (Nat.le_refl _) blkAB).trans (hb.mono (by simp))⟩

theorem aw_sum (w : World) : Calls Try.prog 72 #[.slice (some ⟨w.heap.size, 0, none⟩) 1 1] (w.alloc blkA)
    fun e w' => e = .returned (.int .u64 12638187200555641996) ∧ w.alloc blkA = w' := by
  have h := hsum_any (w.alloc blkA) (w.heap.size + 1) (some ⟨w.heap.size, 0, none⟩) 1 1 [97] (lit1 w 97 _ (by omega))
  rw [sum_a] at h
  exact h

theorem aw_same (w : World) (A : Option Addr) (c : Nat) (h : Arg w w.heap.size A 3 c [3, 97, 98]) : Calls Try.prog 23 #[.slice A 3 c, .slice (some ⟨w.heap.size, 0, none⟩) 3 3] (w.alloc blkId)
    fun e w' => e = .returned (.bool true) ∧ ∃ t, w' = (w.alloc blkId).drewN t :=
  same_any (w.alloc blkId) w.heap.size (w.heap.size + 1) A (some ⟨w.heap.size, 0, none⟩) 3 c 3 3 [3, 97, 98] [3, 97, 98] true rfl (h.below ((Below.refl _ w).alloc (Nat.le_refl _) blkId)) (lit3 w 3 97 98 _ (by omega) (by omega) (by omega))

end Go.Proofs.Ytndgladfcogiiaa
