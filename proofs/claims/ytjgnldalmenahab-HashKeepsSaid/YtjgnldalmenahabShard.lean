/- Contracts: Shard, by the program and by the document. -/
import Derived.Test.YtjgnldalmenahabBytes
namespace Go.Proofs.Ytjgnldalmenahab
open Go.RowKit

def ShEnd (w : World) (v x : Int) (e : Ending) (w' : World) : Prop := e = .returned (.tuple #[.int .i64 v, .int .i64 x]) ∧ w = w'

theorem and_mask (s m : Nat) (hs : s < 18446744073709551616) (k : Nat) (hm : m + 1 = 2 ^ k) (hk : k ≤ 63) : bits .and .u64 (s : Int) (m : Int) = ((s % (m + 1) : Nat) : Int) := by
  have hp : 2 ^ k ≤ 2 ^ 63 := Nat.pow_le_pow_right (by omega) hk
  have h := u64_and_nat s m hs (by omega)
  have e : m = 2 ^ k - 1 := by omega
  rw [h, hm]
  conv => lhs; rw [e]
  rw [Nat.and_two_pow_sub_one_eq_mod]

set_option maxHeartbeats 400000 in
theorem shard_bad (w : World) (A : Option Addr) (n c : Nat) (l : Int) (hl : l < 0 ∨ 4 < l) : Calls Try.prog 9 #[.slice A n c, .int .i64 l] w (ShEnd w 0 1) := by
  rcases hl with hl | hl
  · go_enter Try.func9, Try.ntmps9
    go_wp2
    go_ret2
    exact ⟨rfl, rfl⟩
  · go_enter Try.func9, Try.ntmps9
    go_wp2
    go_ret2
    exact ⟨rfl, rfl⟩

set_option maxHeartbeats 800000 in
theorem shard_0 (w : World) (B : Nat) (A : Option Addr) (n c : Nat) (zs : List Nat) (h : Arg w B A n c zs) : Calls Try.prog 9 #[.slice A n c, .int .i64 0] w (ShEnd w ((sumV zs % 1 : Nat) : Int) 0) := by
  have HC := Lib.hid (hsum_any w B A n c zs h)
  have hlt := sumV_lt zs
  have hm := and_mask (sumV zs) 0 hlt 0 rfl (by omega)
  have hm' : bits .and .u64 (sumV zs : Int) 0 = ((sumV zs % 1 : Nat) : Int) := hm
  have hr : sumV zs % 1 < 1 := Nat.mod_lt _ (by omega)
  clear h hm
  generalize sumV zs % 1 = r at *
  generalize sumV zs = s at *
  go_enter Try.func9, Try.ntmps9
  go_wp2_with fail
  refine HC.out.mono ?_
  rintro e w1 ⟨rfl, rfl⟩
  go_wp2
  go_ret2
  exact ⟨rfl, rfl⟩

set_option maxHeartbeats 800000 in
theorem shard_1 (w : World) (B : Nat) (A : Option Addr) (n c : Nat) (zs : List Nat) (h : Arg w B A n c zs) : Calls Try.prog 9 #[.slice A n c, .int .i64 1] w (ShEnd w ((sumV zs % 2 : Nat) : Int) 0) := by
  have HC := Lib.hid (hsum_any w B A n c zs h)
  have hlt := sumV_lt zs
  have hm := and_mask (sumV zs) 1 hlt 1 rfl (by omega)
  have hm' : bits .and .u64 (sumV zs : Int) 1 = ((sumV zs % 2 : Nat) : Int) := hm
  have hr : sumV zs % 2 < 2 := Nat.mod_lt _ (by omega)
  clear h hm
  generalize sumV zs % 2 = r at *
  generalize sumV zs = s at *
  go_enter Try.func9, Try.ntmps9
  go_wp2_with fail
  refine HC.out.mono ?_
  rintro e w1 ⟨rfl, rfl⟩
  go_wp2
  go_ret2
  exact ⟨rfl, rfl⟩

set_option maxHeartbeats 800000 in
theorem shard_2 (w : World) (B : Nat) (A : Option Addr) (n c : Nat) (zs : List Nat) (h : Arg w B A n c zs) : Calls Try.prog 9 #[.slice A n c, .int .i64 2] w (ShEnd w ((sumV zs % 4 : Nat) : Int) 0) := by
  have HC := Lib.hid (hsum_any w B A n c zs h)
  have hlt := sumV_lt zs
  have hm := and_mask (sumV zs) 3 hlt 2 rfl (by omega)
  have hm' : bits .and .u64 (sumV zs : Int) 3 = ((sumV zs % 4 : Nat) : Int) := hm
  have hr : sumV zs % 4 < 4 := Nat.mod_lt _ (by omega)
  clear h hm
  generalize sumV zs % 4 = r at *
  generalize sumV zs = s at *
  go_enter Try.func9, Try.ntmps9
  go_wp2_with fail
  refine HC.out.mono ?_
  rintro e w1 ⟨rfl, rfl⟩
  go_wp2
  go_ret2
  exact ⟨rfl, rfl⟩

set_option maxHeartbeats 800000 in
theorem shard_3 (w : World) (B : Nat) (A : Option Addr) (n c : Nat) (zs : List Nat) (h : Arg w B A n c zs) : Calls Try.prog 9 #[.slice A n c, .int .i64 3] w (ShEnd w ((sumV zs % 8 : Nat) : Int) 0) := by
  have HC := Lib.hid (hsum_any w B A n c zs h)
  have hlt := sumV_lt zs
  have hm := and_mask (sumV zs) 7 hlt 3 rfl (by omega)
  have hm' : bits .and .u64 (sumV zs : Int) 7 = ((sumV zs % 8 : Nat) : Int) := hm
  have hr : sumV zs % 8 < 8 := Nat.mod_lt _ (by omega)
  clear h hm
  generalize sumV zs % 8 = r at *
  generalize sumV zs = s at *
  go_enter Try.func9, Try.ntmps9
  go_wp2_with fail
  refine HC.out.mono ?_
  rintro e w1 ⟨rfl, rfl⟩
  go_wp2
  go_ret2
  exact ⟨rfl, rfl⟩

set_option maxHeartbeats 800000 in
theorem shard_4 (w : World) (B : Nat) (A : Option Addr) (n c : Nat) (zs : List Nat) (h : Arg w B A n c zs) : Calls Try.prog 9 #[.slice A n c, .int .i64 4] w (ShEnd w ((sumV zs % 16 : Nat) : Int) 0) := by
  have HC := Lib.hid (hsum_any w B A n c zs h)
  have hlt := sumV_lt zs
  have hm := and_mask (sumV zs) 15 hlt 4 rfl (by omega)
  have hm' : bits .and .u64 (sumV zs : Int) 15 = ((sumV zs % 16 : Nat) : Int) := hm
  have hr : sumV zs % 16 < 16 := Nat.mod_lt _ (by omega)
  clear h hm
  generalize sumV zs % 16 = r at *
  generalize sumV zs = s at *
  go_enter Try.func9, Try.ntmps9
  go_wp2_with fail
  refine HC.out.mono ?_
  rintro e w1 ⟨rfl, rfl⟩
  go_wp2
  go_ret2
  exact ⟨rfl, rfl⟩

end Go.Proofs.Ytjgnldalmenahab
