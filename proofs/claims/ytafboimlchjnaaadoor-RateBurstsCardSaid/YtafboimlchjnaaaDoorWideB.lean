/- Contracts of package wide: next, Product, shrink. -/
import Derived.Test.YtafboimlchjnaaaDoorWide
import Derived.Test.YtafboimlchjnaaaDoorShelf
import Derived.Laws.Externs
import Derived.Deep.RegionHeld3
namespace Go.Proofs.YtafboimlchjnaaaDoor
open Go.RowKit
set_option maxRecDepth 100000

set_option maxHeartbeats 400000 in
theorem next_w (w : World) (v : Nat) (hv : v < 340282366920938463463374607431768211455) :
    Calls Tryd.prog 101 #[W2 v] w (W2End w (v + 1)) := by
  obtain ⟨hi, hhi⟩ : ∃ hi, hi = v / 18446744073709551616 := ⟨_, rfl⟩
  obtain ⟨lo, hlo⟩ : ∃ lo, lo = v % 18446744073709551616 := ⟨_, rfl⟩
  have HV : Hid (W2 (v + 1) = .agg #[.int .u64 ((hi + (lo + 1) / 18446744073709551616 : Nat) : Int), .int .u64 (((lo + 1) % 18446744073709551616 : Nat) : Int)]) := Lib.hid (W2_of (by omega) (by omega))
  rw [W2_of hhi.symm hlo.symm]
  have e1 : IntKind.u64.wrap ((hi : Int) + ((lo : Int) + 1) / 18446744073709551616) = ((hi + (lo + 1) / 18446744073709551616 : Nat) : Int) := by rw [u64_in (by omega) (by omega)]; omega
  have e2 : ((lo : Int) + 1) % 18446744073709551616 = (((lo + 1) % 18446744073709551616 : Nat) : Int) := by omega
  have E1 := Lib.hid e1
  have E2 := Lib.hid e2
  have l0 : (0 : Int) ≤ lo := by omega
  have l1 : (lo : Int) < 18446744073709551616 := by omega
  clear hhi hlo hv e1 e2
  go_enter Tryd.func101, Tryd.ntmps101
  go_wp2
  rw [run_callFunc_extern Tryd.func106 (by kernel_rfl) (by kernel_rfl) (by kernel_rfl) (e := add64Entry) (by kernel_rfl), run_add64 _ _ _ l0 (by omega) (by omega) (by omega)]
  simp only [Result.andThen]
  rw [Oper.upon_value]
  go_wp2
  rw [E1.out, E2.out]
  exact bodyPost_ret (v := .agg #[.int .u64 ((hi + (lo + 1) / 18446744073709551616 : Nat) : Int), .int .u64 (((lo + 1) % 18446744073709551616 : Nat) : Int)]) (by simp [results, Tryd.results101, go_sem]) rfl ⟨by rw [HV.out], two_below _ _ _⟩

set_option maxHeartbeats 400000 in
theorem product_w (w : World) (a b : Nat) (ha : a < 18446744073709551616) (hb : b < 18446744073709551616) :
    Calls Tryd.prog 59 #[.int .u64 (a : Int), .int .u64 (b : Int)] w (W2End w (a * b)) := by
  go_enter Tryd.func59, Tryd.ntmps59
  go_wp2_with fail
  refine (Tryd.bits_Mul64 a b ha hb _).mono ?_
  rintro e w1 ⟨rfl, rfl⟩
  go_wp2
  exact bodyPost_ret (v := .agg #[.int .u64 ((a * b / 18446744073709551616 : Nat) : Int), .int .u64 ((a * b % 18446744073709551616 : Nat) : Int)]) (by simp [results, Tryd.results59, go_sem]) rfl ⟨rfl, ((Below.refl _ _).alloc (Nat.le_refl _) _)⟩

theorem bcell {W w1 : World} (hb : Below W.heap.size W w1) : (∀ b o, b < W.heap.size → w1.cell? ⟨b, o, none⟩ = W.cell? ⟨b, o, none⟩) ∧ (∀ b o, b < W.heap.size → w1.frozen? ⟨b, o, none⟩ = W.frozen? ⟨b, o, none⟩) :=
  ⟨fun b o h => hb.cell (p := ⟨b, o, none⟩) h, fun b o h => hb.frozen (p := ⟨b, o, none⟩) h⟩

/-- A block of two cells of a call's own. -/
structure Blk (w : World) (b : Nat) (x y : Value) : Prop where
  lt : b < w.heap.size
  c0 : w.cell? ⟨b, 0, none⟩ = some x
  c1 : w.cell? ⟨b, 1, none⟩ = some y
  f0 : w.frozen? ⟨b, 0, none⟩ = false
  f1 : w.frozen? ⟨b, 1, none⟩ = false
theorem Blk.new (w : World) (x y : Value) (t : TypeId) : Blk (w.alloc (.cells #[x, y] t)) w.heap.size x y := ⟨by simp, by simp, by simp, by simp, by simp⟩
theorem Blk.below {w w' : World} {b : Nat} {x y : Value} (h : Blk w b x y) (hb : Below w.heap.size w w') : Blk w' b x y :=
  ⟨Nat.lt_of_lt_of_le h.lt hb.size, (hb.cell (p := ⟨b, 0, none⟩) h.lt).trans h.c0, (hb.cell (p := ⟨b, 1, none⟩) h.lt).trans h.c1, (hb.frozen (p := ⟨b, 0, none⟩) h.lt).trans h.f0, (hb.frozen (p := ⟨b, 1, none⟩) h.lt).trans h.f1⟩
theorem Blk.put {w : World} {b : Nat} {x0 y0 : Value} (h : Blk w b x0 y0) (x y : Value) : (w.setCell ⟨b, 0, none⟩ x).cell? ⟨b, 0, none⟩ = some x ∧ ((w.setCell ⟨b, 0, none⟩ x).setCell ⟨b, 1, none⟩ y).cell? ⟨b, 1, none⟩ = some y :=
  ⟨World.cell?_setCell_same _ _ _ h.c0, World.cell?_setCell_same _ _ _ ((World.cell?_setCell_other _ _ _ _ (by simp)).trans h.c1)⟩
theorem Blk.alloc {w : World} {b : Nat} {x y : Value} (h : Blk w b x y) (o : Obj) : Blk (w.alloc o) b x y := h.below ((Below.refl _ _).alloc (Nat.le_refl _) _)
theorem Blk.drew {w : World} {b : Nat} {x y : Value} (h : Blk w b x y) : Blk w.drew b x y := h.below (Below.refl _ _).drew

theorem Blk.drewN {w : World} {b : Nat} {x y : Value} (h : Blk w b x y) (k : Nat) : Blk (w.drewN k) b x y := ⟨h.lt, h.c0, h.c1, h.f0, h.f1⟩

/-- A number of 128 bits by its two words. -/
def Two (v a b : Nat) : Prop := v / 18446744073709551616 = a ∧ v % 18446744073709551616 = b
theorem Two.of (v : Nat) : ∃ a b, Two v a b := ⟨_, _, rfl, rfl⟩
theorem Two.eq {v a b v' a' b' : Nat} (h : Two v a b) (h' : Two v' a' b') (e1 : a = a') (e2 : b = b') : v = v' := by unfold Two at *; omega
def R2 (w : World) (x y : Nat) (e : Ending) (w' : World) : Prop := e = .returned (.agg #[.int .u64 (x : Int), .int .u64 (y : Int)]) ∧ Below w.heap.size w w'
theorem R2.of {w : World} {v x y : Nat} (h : Two v x y) {e : Ending} {w' : World} (hh : W2End w v e w') : R2 w x y e w' := ⟨by rw [hh.1, W2_of h.1 h.2], hh.2⟩
theorem R2.to {w : World} {v x y : Nat} (h : Two v x y) {e : Ending} {w' : World} (hh : R2 w x y e w') : W2End w v e w' := ⟨by rw [hh.1, W2_of h.1 h.2], hh.2⟩
theorem right_at (w : World) (v hi lo k x y : Nat) (hv : v < 340282366920938463463374607431768211456) (hk : k ≤ 4096) (h : Two v hi lo) (h' : Two (v / 2 ^ k) x y) :
    Calls Tryd.prog 84 #[.agg #[.int .u64 (hi : Int), .int .u64 (lo : Int)], .int .u64 (k : Int)] w (R2 w x y) := by
  rw [← W2_of h.1 h.2]
  exact (right_any w v k hv hk).mono fun _ _ => R2.of h'
theorem left_at (w : World) (v hi lo k x y : Nat) (hv : v < 340282366920938463463374607431768211456) (hk : k ≤ 4096) (h : Two v hi lo) (h' : Two (shl2 v k) x y) :
    Calls Tryd.prog 83 #[.agg #[.int .u64 (hi : Int), .int .u64 (lo : Int)], .int .u64 (k : Int)] w (R2 w x y) := by
  rw [← W2_of h.1 h.2]
  exact (left_w w v k hv hk).mono fun _ _ => R2.of h'
theorem next_at (w : World) (v hi lo x y : Nat) (hv : v < 340282366920938463463374607431768211455) (h : Two v hi lo) (h' : Two (v + 1) x y) :
    Calls Tryd.prog 101 #[.agg #[.int .u64 (hi : Int), .int .u64 (lo : Int)]] w (R2 w x y) := by
  rw [← W2_of h.1 h.2]
  exact (next_w w v hv).mono fun _ _ => R2.of h'

end Go.Proofs.YtafboimlchjnaaaDoor
