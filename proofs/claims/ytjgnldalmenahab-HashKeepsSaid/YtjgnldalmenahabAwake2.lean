/- Contract: the law's awake of layer 2. -/
import Derived.Test.YtjgnldalmenahabParts
import Derived.Test.YtjgnldalmenahabShard
import Derived.Lib.SlBytesConst
namespace Go.Proofs.Ytjgnldalmenahab
open Go.RowKit

theorem below_drews {B : Nat} {a w : World} (h : Below B a w) (n : Nat) : Below B a (w.drewN n) := ⟨h.os, h.tape, h.output, h.size, h.block⟩

/-- A block of bytes that a call laid, marked or not, read from its head on. -/
theorem arg_blk (w : World) (xs : List Nat) (fr : Nat × Nat) (hx : ∀ d ∈ xs, d < 256) (hn : xs.length ≤ maxLen) : Arg (w.alloc (.cells (xs.map V8).toArray 5 fr)) (w.heap.size + 1) (some ⟨w.heap.size, 0, none⟩) xs.length xs.length xs := by
  refine ⟨rfl, Nat.le_refl _, hn, hx, (fun h => by cases h), fun _ => ⟨w.heap.size, 0, rfl, by omega, fun k hk => ?_⟩⟩
  rw [Nat.zero_add, World.cell?_alloc_mark]
  simp [V8, List.getD_eq_getElem?_getD, hk]

theorem lit1 (w : World) (x : Nat) (fr : Nat × Nat) (hx : x < 256) : Arg (w.alloc (.cells #[.int .u8 (x : Int)] 5 fr)) (w.heap.size + 1) (some ⟨w.heap.size, 0, none⟩) 1 1 [x] :=
  arg_blk w [x] fr (by simpa using hx) (by simp [maxLen])
theorem lit2 (w : World) (x y : Nat) (fr : Nat × Nat) (hx : x < 256) (hy : y < 256) : Arg (w.alloc (.cells #[.int .u8 (x : Int), .int .u8 (y : Int)] 5 fr)) (w.heap.size + 1) (some ⟨w.heap.size, 0, none⟩) 2 2 [x, y] :=
  arg_blk w [x, y] fr (by simp; omega) (by simp [maxLen])
theorem lit3 (w : World) (x y z : Nat) (fr : Nat × Nat) (hx : x < 256) (hy : y < 256) (hz : z < 256) : Arg (w.alloc (.cells #[.int .u8 (x : Int), .int .u8 (y : Int), .int .u8 (z : Int)] 5 fr)) (w.heap.size + 1) (some ⟨w.heap.size, 0, none⟩) 3 3 [x, y, z] :=
  arg_blk w [x, y, z] fr (by simp; omega) (by simp [maxLen])

theorem sum_a : sumV [97] = 12638187200555641996 := by decide +kernel
theorem shard_a : sumV [97] % 16 = 12 := by decide +kernel

abbrev blkA : Obj := .cells #[.int .u8 97] 5 (1, 2)
abbrev blkB : Obj := .cells #[.int .u8 98] 5 (1, 2)
abbrev blkAB : Obj := .cells #[.int .u8 97, .int .u8 98] 5 (2, 3)
abbrev blkId : Obj := .cells #[.int .u8 3, .int .u8 97, .int .u8 98] 5

theorem aw_ident (w : World) : Calls Try.prog 6 #[.int .i64 3, .slice (some ⟨w.heap.size, 0, none⟩) 2 2] (w.alloc blkAB)
    fun e w' => ∃ A c, e = .returned (.tuple #[.slice A 3 c, .int .i64 0]) ∧ OwnB w' w.heap.size A 3 c [3, 97, 98] ∧ Below w.heap.size w w' :=
  (ident_ok (w.alloc blkAB) (w.heap.size + 1) (some ⟨w.heap.size, 0, none⟩) 3 2 2 [97, 98] (lit2 w 97 98 _ (by omega) (by omega)) (by simp) (by omega) (by omega)).mono
    fun _ _ ⟨A, c, e, ho, hb⟩ => ⟨A, c, e, ho.mono (by simp), ((Below.refl _ w).alloc (Nat.le_refl _) blkAB).trans (hb.mono (by simp))⟩

theorem aw_shard (w : World) : Calls Try.prog 9 #[.slice (some ⟨w.heap.size, 0, none⟩) 1 1, .int .i64 4] (w.alloc blkA)
    fun e w' => e = .returned (.tuple #[.int .i64 12, .int .i64 0]) ∧ w.alloc blkA = w' := by
  have h := shard_4 (w.alloc blkA) (w.heap.size + 1) (some ⟨w.heap.size, 0, none⟩) 1 1 [97] (lit1 w 97 _ (by omega))
  rw [shard_a] at h
  exact h

theorem aw_sum (w : World) : Calls Try.prog 8 #[.slice (some ⟨w.heap.size, 0, none⟩) 1 1] (w.alloc blkA)
    fun e w' => e = .returned (.int .u64 12638187200555641996) ∧ w.alloc blkA = w' := by
  have h := hsum_any (w.alloc blkA) (w.heap.size + 1) (some ⟨w.heap.size, 0, none⟩) 1 1 [97] (lit1 w 97 _ (by omega))
  rw [sum_a] at h
  exact h

theorem aw_same (w : World) (A : Option Addr) (c : Nat) (h : Arg w w.heap.size A 3 c [3, 97, 98]) : Calls Try.prog 12 #[.slice A 3 c, .slice (some ⟨w.heap.size, 0, none⟩) 3 3] (w.alloc blkId)
    fun e w' => e = .returned (.bool true) ∧ ∃ t, w' = (w.alloc blkId).drewN t :=
  same_any (w.alloc blkId) w.heap.size (w.heap.size + 1) A (some ⟨w.heap.size, 0, none⟩) 3 c 3 3 [3, 97, 98] [3, 97, 98] true rfl (h.below ((Below.refl _ w).alloc (Nat.le_refl _) blkId)) (lit3 w 3 97 98 _ (by omega) (by omega) (by omega))

theorem aw_order (w : World) : Calls Try.prog 10 #[.slice (some ⟨w.heap.size, 0, none⟩) 1 1, .slice (some ⟨w.heap.size + 1, 0, none⟩) 1 1] ((w.alloc blkA).alloc blkB)
    fun e w' => e = .returned (.int .i64 (-1)) ∧ (w.alloc blkA).alloc blkB = w' := by
  have hb := lit1 (w.alloc blkA) 98 (1, 2) (by omega)
  rw [World.size_alloc] at hb
  exact order_any ((w.alloc blkA).alloc blkB) (w.heap.size + 1) (w.heap.size + 1 + 1) (some ⟨w.heap.size, 0, none⟩) (some ⟨w.heap.size + 1, 0, none⟩) 1 1 1 1 [97] [98] ((lit1 w 97 _ (by omega)).below ((Below.refl _ (w.alloc blkA)).alloc (by simp) blkB)) hb

set_option maxRecDepth 100000 in
set_option maxHeartbeats 800000 in
theorem awake2_any (w : World) : Calls Try.prog 4 #[] w fun e w' => e = .returned (.bool true) ∧ Below w.heap.size w w' := by
  have kc := fun (w : World) (C : Array Value) (n c : Nat) => Lib.run_convert_bytes_const (P := Try.prog) w 22 5 C n c Try.underlying22 Try.underlying5
  have kc2 := fun (w : World) (o : Obj) (C : Array Value) (n c : Nat) => World.size_alloc w o ▸ kc (w.alloc o) C n c
  go_enter Try.func4, Try.ntmps4
  go_wp2_with fail
  refine (aw_ident w).mono ?_
  rintro e w1 ⟨A, c, rfl, ho, hb⟩
  have HO := Lib.hid ho
  have HB1 := Lib.hid hb
  have hs1 := hb.size
  clear ho hb
  go_wp2_with fail
  refine (aw_shard w1).mono ?_
  rintro e w2 ⟨rfl, rfl⟩
  have HB2 := Lib.hid (HB1.out.alloc hs1 blkA)
  have HO2 := Lib.hid (HO.out.below ((Below.refl _ w1).alloc (Nat.le_refl _) blkA))
  obtain ⟨w2, hw2⟩ : ∃ x, x = w1.alloc blkA := ⟨_, rfl⟩
  rw [← hw2]
  rw [← hw2] at HB2 HO2
  clear hw2
  have hs2 := HB2.out.size
  go_wp2_with fail
  refine (aw_sum w2).mono ?_
  rintro e w3 ⟨rfl, rfl⟩
  have HB3 := Lib.hid (HB2.out.alloc hs2 blkA)
  have HO3 := Lib.hid (HO2.out.below ((Below.refl _ w2).alloc (Nat.le_refl _) blkA))
  obtain ⟨w3, hw3⟩ : ∃ x, x = w2.alloc blkA := ⟨_, rfl⟩
  rw [← hw3]
  rw [← hw3] at HB3 HO3
  clear hw3
  have hs3 := HB3.out.size
  go_wp2_with fail
  refine (aw_same w3 A c HO3.out.arg).mono ?_
  rintro e w4 ⟨rfl, t, hw4⟩
  have hb4 : Below w.heap.size w w4 := by rw [hw4]; exact below_drews (HB3.out.alloc hs3 blkId) t
  have HB4 := Lib.hid hb4
  have hs4 := hb4.size
  clear hw4 hb4
  go_wp2_with fail
  refine (aw_order w4).mono ?_
  rintro e w5 ⟨rfl, rfl⟩
  have HB5 := Lib.hid ((HB4.out.alloc hs4 blkA).alloc (by simp; omega) blkB)
  go_wp2
  go_ret
  exact ⟨rfl, HB5.out⟩
end Go.Proofs.Ytjgnldalmenahab
