/- The laws HashSums, HashShards, HashHalves. -/
import Derived.Test.YtjgnldalmenahaaAwake2
namespace Go.Proofs.Ytjgnldalmenahaa
open Go.RowKit

set_option maxHeartbeats 800000 in
theorem hashSums_walk (h : Int) (A : Option Addr) (n c : Nat) (zs : List Nat) (w : World) (wh : (Lit.int .u64 h).wf = true) (hA : Arg w w.heap.size A n c zs) (_ : c ≤ 140737488351232) :
    Calls Try.prog 9 #[.int .u64 h, .slice A n c] w fun e w' => e = .returned (.bool true) ∧ Below w.heap.size w w' := by
  have hb := bounds_u64 wh
  obtain ⟨h, rfl⟩ := Int.eq_ofNat_of_zero_le hb.1
  have hh : h ≤ 18446744073709551615 := by omega
  have HA := Lib.hid hA
  clear hA wh hb
  go_enter Try.func9, Try.ntmps9
  go_wp2_with fail
  refine (awake2_any _).mono ?_
  rintro e w1 ⟨rfl, hbel⟩
  have HB := Lib.hid hbel
  have HA1 := Lib.hid (HA.out.below hbel)
  clear hbel
  go_wp2_with fail
  refine (hsum_any _ _ _ _ _ _ HA1.out).mono ?_
  rintro e w2 ⟨rfl, rfl⟩
  go_wp2_with fail
  refine (rsum_any _ _ _ _ _ _ HA1.out).mono ?_
  rintro e w2 ⟨rfl, rfl⟩
  go_wp2_with fail
  refine (hupd_any _ _ h _ _ _ _ hh HA1.out).mono ?_
  rintro e w2 ⟨rfl, rfl⟩
  go_wp2_with fail
  refine (rupd_any _ _ h _ _ _ _ hh HA1.out).mono ?_
  rintro e w2 ⟨rfl, rfl⟩
  go_wp2
  go_ret
  exact ⟨rfl, HB.out⟩

set_option maxHeartbeats 800000 in
theorem hashShards_0 (A : Option Addr) (n c : Nat) (zs : List Nat) (w : World) (hA : Arg w w.heap.size A n c zs) :
    Calls Try.prog 11 #[.slice A n c, .int .i64 0] w fun e w' => e = .returned (.bool true) ∧ Below w.heap.size w w' := by
  have HA := Lib.hid hA
  clear hA
  go_enter Try.func11, Try.ntmps11
  go_wp2_with fail
  refine (shard_0 _ _ _ _ _ _ HA.out).mono ?_
  rintro e w2 ⟨rfl, rfl⟩
  go_wp2_with fail
  refine (docShard_0 _ _ _ _ _ _ HA.out).mono ?_
  rintro e w2 ⟨rfl, rfl⟩
  go_wp2_with fail
  refine (awake2_any _).mono ?_
  rintro e w1 ⟨rfl, hbel⟩
  have HB := Lib.hid hbel
  clear hbel
  go_wp2
  go_ret
  exact ⟨rfl, HB.out⟩

set_option maxHeartbeats 800000 in
theorem hashShards_1 (A : Option Addr) (n c : Nat) (zs : List Nat) (w : World) (hA : Arg w w.heap.size A n c zs) :
    Calls Try.prog 11 #[.slice A n c, .int .i64 1] w fun e w' => e = .returned (.bool true) ∧ Below w.heap.size w w' := by
  have HA := Lib.hid hA
  clear hA
  go_enter Try.func11, Try.ntmps11
  go_wp2_with fail
  refine (shard_1 _ _ _ _ _ _ HA.out).mono ?_
  rintro e w2 ⟨rfl, rfl⟩
  go_wp2_with fail
  refine (docShard_1 _ _ _ _ _ _ HA.out).mono ?_
  rintro e w2 ⟨rfl, rfl⟩
  go_wp2_with fail
  refine (awake2_any _).mono ?_
  rintro e w1 ⟨rfl, hbel⟩
  have HB := Lib.hid hbel
  clear hbel
  go_wp2
  go_ret
  exact ⟨rfl, HB.out⟩

set_option maxHeartbeats 800000 in
theorem hashShards_2 (A : Option Addr) (n c : Nat) (zs : List Nat) (w : World) (hA : Arg w w.heap.size A n c zs) :
    Calls Try.prog 11 #[.slice A n c, .int .i64 2] w fun e w' => e = .returned (.bool true) ∧ Below w.heap.size w w' := by
  have HA := Lib.hid hA
  clear hA
  go_enter Try.func11, Try.ntmps11
  go_wp2_with fail
  refine (shard_2 _ _ _ _ _ _ HA.out).mono ?_
  rintro e w2 ⟨rfl, rfl⟩
  go_wp2_with fail
  refine (docShard_2 _ _ _ _ _ _ HA.out).mono ?_
  rintro e w2 ⟨rfl, rfl⟩
  go_wp2_with fail
  refine (awake2_any _).mono ?_
  rintro e w1 ⟨rfl, hbel⟩
  have HB := Lib.hid hbel
  clear hbel
  go_wp2
  go_ret
  exact ⟨rfl, HB.out⟩

set_option maxHeartbeats 800000 in
theorem hashShards_3 (A : Option Addr) (n c : Nat) (zs : List Nat) (w : World) (hA : Arg w w.heap.size A n c zs) :
    Calls Try.prog 11 #[.slice A n c, .int .i64 3] w fun e w' => e = .returned (.bool true) ∧ Below w.heap.size w w' := by
  have HA := Lib.hid hA
  clear hA
  go_enter Try.func11, Try.ntmps11
  go_wp2_with fail
  refine (shard_3 _ _ _ _ _ _ HA.out).mono ?_
  rintro e w2 ⟨rfl, rfl⟩
  go_wp2_with fail
  refine (docShard_3 _ _ _ _ _ _ HA.out).mono ?_
  rintro e w2 ⟨rfl, rfl⟩
  go_wp2_with fail
  refine (awake2_any _).mono ?_
  rintro e w1 ⟨rfl, hbel⟩
  have HB := Lib.hid hbel
  clear hbel
  go_wp2
  go_ret
  exact ⟨rfl, HB.out⟩

set_option maxHeartbeats 800000 in
theorem hashShards_4 (A : Option Addr) (n c : Nat) (zs : List Nat) (w : World) (hA : Arg w w.heap.size A n c zs) :
    Calls Try.prog 11 #[.slice A n c, .int .i64 4] w fun e w' => e = .returned (.bool true) ∧ Below w.heap.size w w' := by
  have HA := Lib.hid hA
  clear hA
  go_enter Try.func11, Try.ntmps11
  go_wp2_with fail
  refine (shard_4 _ _ _ _ _ _ HA.out).mono ?_
  rintro e w2 ⟨rfl, rfl⟩
  go_wp2_with fail
  refine (docShard_4 _ _ _ _ _ _ HA.out).mono ?_
  rintro e w2 ⟨rfl, rfl⟩
  go_wp2_with fail
  refine (awake2_any _).mono ?_
  rintro e w1 ⟨rfl, hbel⟩
  have HB := Lib.hid hbel
  clear hbel
  go_wp2
  go_ret
  exact ⟨rfl, HB.out⟩

set_option maxHeartbeats 800000 in
theorem hashShards_bad (A : Option Addr) (n c : Nat) (l : Int) (w : World) (hl : l < 0 ∨ 4 < l) :
    Calls Try.prog 11 #[.slice A n c, .int .i64 l] w fun e w' => e = .returned (.bool true) ∧ Below w.heap.size w w' := by
  have HL := Lib.hid hl
  clear hl
  go_enter Try.func11, Try.ntmps11
  go_wp2_with fail
  refine (shard_bad _ _ _ _ l HL.out).mono ?_
  rintro e w2 ⟨rfl, rfl⟩
  go_wp2_with fail
  refine (docShard_bad _ _ _ _ l HL.out).mono ?_
  rintro e w2 ⟨rfl, rfl⟩
  go_wp2_with fail
  refine (awake2_any _).mono ?_
  rintro e w1 ⟨rfl, hbel⟩
  have HB := Lib.hid hbel
  clear hbel
  go_wp2
  go_ret
  exact ⟨rfl, HB.out⟩

theorem hashShards_walk (A : Option Addr) (n c : Nat) (zs : List Nat) (l : Int) (w : World) (hA : Arg w w.heap.size A n c zs) (_ : c ≤ 140737488351232) (_ : (Lit.int .i64 l).wf = true) :
    Calls Try.prog 11 #[.slice A n c, .int .i64 l] w fun e w' => e = .returned (.bool true) ∧ Below w.heap.size w w' := by
  by_cases hl : l < 0 ∨ 4 < l
  · exact hashShards_bad A n c l w hl
  · have h5 : l = 0 ∨ l = 1 ∨ l = 2 ∨ l = 3 ∨ l = 4 := by omega
    rcases h5 with rfl | rfl | rfl | rfl | rfl
    · exact hashShards_0 A n c zs w hA
    · exact hashShards_1 A n c zs w hA
    · exact hashShards_2 A n c zs w hA
    · exact hashShards_3 A n c zs w hA
    · exact hashShards_4 A n c zs w hA

/-- What HashHalves holds where level l is next: the number of the level before. -/
def HalvesInv (s : Nat) (lv kv : Value) : Prop := ∃ l : Nat, 1 ≤ l ∧ l ≤ 5 ∧ kv = .int .i64 (l : Int) ∧ lv = .int .i64 ((s % 2 ^ (l - 1) : Nat) : Int)

set_option maxRecDepth 100000 in
set_option maxHeartbeats 1600000 in
theorem hashHalves_walk (A : Option Addr) (n c : Nat) (zs : List Nat) (w : World) (hA : Arg w w.heap.size A n c zs) (_ : c ≤ 140737488351232) :
    Calls Try.prog 14 #[.slice A n c] w fun e w' => e = .returned (.bool true) ∧ Below w.heap.size w w' := by
  have HA := Lib.hid hA
  clear hA
  go_enter Try.func14, Try.ntmps14
  go_wp2_with fail
  refine (awake2_any _).mono ?_
  rintro e w1 ⟨rfl, hbel⟩
  have HB := Lib.hid hbel
  have HA1 := Lib.hid (HA.out.below hbel)
  clear hbel
  have C0 := shard_0 w1 _ _ _ _ _ HA1.out
  rw [Nat.mod_one] at C0
  have HC0 := Lib.hid C0
  clear C0
  go_wp2_with fail
  refine HC0.out.mono ?_
  rintro e w2 ⟨rfl, rfl⟩
  go_wp2

  go_loop [3, 5] (fun lv kv => HalvesInv (sumV zs) lv kv) (fun _ kv => 5 - (intOf kv).toNat)
  case atStart => exact ⟨1, by omega, by omega, rfl, by rw [show (2 : Nat) ^ (1 - 1) = 1 from rfl, Nat.mod_one]; rfl⟩
  case round =>
    obtain ⟨l, hl1, hl5, rfl, rfl⟩ := hrel
    rcases Nat.lt_or_ge l 5 with h1 | h1
    · have h4 : l = 1 ∨ l = 2 ∨ l = 3 ∨ l = 4 := by omega
      rcases h4 with rfl | rfl | rfl | rfl
      · have hsp : sumV zs % 2 = sumV zs % 1 ∨ sumV zs % 2 = sumV zs % 1 + 1 := by omega
        have C := shard_1 w1 _ _ _ _ _ HA1.out
        have hx : sumV zs % 2 < 2 := Nat.mod_lt _ (by omega)
        have hy : sumV zs % 1 < 1 := Nat.mod_lt _ (by omega)
        have hi : sumV zs % 2 ^ (1 - 1) = sumV zs % 1 := rfl
        rw [hi]
        obtain ⟨x, hxe⟩ : ∃ x, sumV zs % 2 = x := ⟨_, rfl⟩
        obtain ⟨y, hye⟩ : ∃ y, sumV zs % 1 = y := ⟨_, rfl⟩
        rw [hxe] at C hsp hx
        rw [hye] at hsp hy ⊢
        have HO : Hid (sumV zs % 2 ^ (1 + 1 - 1) = x) := hxe
        have HC := Lib.hid C
        clear hi hxe hye C
        go_wp2_with fail
        refine HC.out.mono ?_
        rintro e w2 ⟨rfl, rfl⟩
        rcases hsp with rfl | rfl
        · go_wp2
          go_round
          case rel => exact ⟨1 + 1, by omega, by omega, rfl, by rw [HO.out]⟩
          case measure => simp [intOf]
        · go_wp2
          go_round
          case rel => exact ⟨1 + 1, by omega, by omega, rfl, by rw [HO.out]; go_num⟩
          case measure => simp [intOf]
      · have hsp : sumV zs % 4 = sumV zs % 2 ∨ sumV zs % 4 = sumV zs % 2 + 2 := by omega
        have C := shard_2 w1 _ _ _ _ _ HA1.out
        have hx : sumV zs % 4 < 4 := Nat.mod_lt _ (by omega)
        have hy : sumV zs % 2 < 2 := Nat.mod_lt _ (by omega)
        have hi : sumV zs % 2 ^ (2 - 1) = sumV zs % 2 := rfl
        rw [hi]
        obtain ⟨x, hxe⟩ : ∃ x, sumV zs % 4 = x := ⟨_, rfl⟩
        obtain ⟨y, hye⟩ : ∃ y, sumV zs % 2 = y := ⟨_, rfl⟩
        rw [hxe] at C hsp hx
        rw [hye] at hsp hy ⊢
        have HO : Hid (sumV zs % 2 ^ (2 + 1 - 1) = x) := hxe
        have HC := Lib.hid C
        clear hi hxe hye C
        go_wp2_with fail
        refine HC.out.mono ?_
        rintro e w2 ⟨rfl, rfl⟩
        rcases hsp with rfl | rfl
        · go_wp2
          go_round
          case rel => exact ⟨2 + 1, by omega, by omega, rfl, by rw [HO.out]⟩
          case measure => simp [intOf]
        · go_wp2
          go_round
          case rel => exact ⟨2 + 1, by omega, by omega, rfl, by rw [HO.out]; go_num⟩
          case measure => simp [intOf]
      · have hsp : sumV zs % 8 = sumV zs % 4 ∨ sumV zs % 8 = sumV zs % 4 + 4 := by omega
        have C := shard_3 w1 _ _ _ _ _ HA1.out
        have hx : sumV zs % 8 < 8 := Nat.mod_lt _ (by omega)
        have hy : sumV zs % 4 < 4 := Nat.mod_lt _ (by omega)
        have hi : sumV zs % 2 ^ (3 - 1) = sumV zs % 4 := rfl
        rw [hi]
        obtain ⟨x, hxe⟩ : ∃ x, sumV zs % 8 = x := ⟨_, rfl⟩
        obtain ⟨y, hye⟩ : ∃ y, sumV zs % 4 = y := ⟨_, rfl⟩
        rw [hxe] at C hsp hx
        rw [hye] at hsp hy ⊢
        have HO : Hid (sumV zs % 2 ^ (3 + 1 - 1) = x) := hxe
        have HC := Lib.hid C
        clear hi hxe hye C
        go_wp2_with fail
        refine HC.out.mono ?_
        rintro e w2 ⟨rfl, rfl⟩
        rcases hsp with rfl | rfl
        · go_wp2
          go_round
          case rel => exact ⟨3 + 1, by omega, by omega, rfl, by rw [HO.out]⟩
          case measure => simp [intOf]
        · go_wp2
          go_round
          case rel => exact ⟨3 + 1, by omega, by omega, rfl, by rw [HO.out]; go_num⟩
          case measure => simp [intOf]
      · have hsp : sumV zs % 16 = sumV zs % 8 ∨ sumV zs % 16 = sumV zs % 8 + 8 := by omega
        have C := shard_4 w1 _ _ _ _ _ HA1.out
        have hx : sumV zs % 16 < 16 := Nat.mod_lt _ (by omega)
        have hy : sumV zs % 8 < 8 := Nat.mod_lt _ (by omega)
        have hi : sumV zs % 2 ^ (4 - 1) = sumV zs % 8 := rfl
        rw [hi]
        obtain ⟨x, hxe⟩ : ∃ x, sumV zs % 16 = x := ⟨_, rfl⟩
        obtain ⟨y, hye⟩ : ∃ y, sumV zs % 8 = y := ⟨_, rfl⟩
        rw [hxe] at C hsp hx
        rw [hye] at hsp hy ⊢
        have HO : Hid (sumV zs % 2 ^ (4 + 1 - 1) = x) := hxe
        have HC := Lib.hid C
        clear hi hxe hye C
        go_wp2_with fail
        refine HC.out.mono ?_
        rintro e w2 ⟨rfl, rfl⟩
        rcases hsp with rfl | rfl
        · go_wp2
          go_round
          case rel => exact ⟨4 + 1, by omega, by omega, rfl, by rw [HO.out]⟩
          case measure => simp [intOf]
        · go_wp2
          go_round
          case rel => exact ⟨4 + 1, by omega, by omega, rfl, by rw [HO.out]; go_num⟩
          case measure => simp [intOf]
    · obtain rfl : l = 5 := by omega
      have HC5 := Lib.hid (shard_bad w1 A n c 5 (.inr (by omega)))
      generalize sumV zs % 2 ^ (5 - 1) = last
      go_wp2_with fail
      refine HC5.out.mono ?_
      rintro e w2 ⟨rfl, rfl⟩
      go_wp2
      go_ret
      exact ⟨rfl, HB.out⟩
end Go.Proofs.Ytjgnldalmenahaa
