/- The law HashOrders. -/
import Derived.Test.YtjgnldalmenahaaOrders
namespace Go.Proofs.Ytjgnldalmenahaa
open Go.RowKit

theorem order_to (w : World) (B B' : Nat) (A A' : Option Addr) (n c m d : Nat) (xs ys : List Nat) (v : Int) (h : Arg w B A n c xs) (h' : Arg w B' A' m d ys) (hv : orderV xs ys = v) :
    Calls Try.prog 44 #[.slice A n c, .slice A' m d] w fun e w' => e = .returned (.int .i64 v) ∧ w = w' := by
  have := order_any w B B' A A' n c m d xs ys h h'
  rw [hv] at this
  exact this
theorem rorder_to (w : World) (B B' : Nat) (A A' : Option Addr) (n c m d : Nat) (xs ys : List Nat) (v : Int) (h : Arg w B A n c xs) (h' : Arg w B' A' m d ys) (hv : orderV xs ys = v) :
    Calls Try.prog 45 #[.slice A n c, .slice A' m d] w (OrdEnd w v) := by
  have := rorder_any w B B' A A' n c m d xs ys h h'
  rw [hv] at this
  exact this

set_option maxRecDepth 100000 in
set_option maxHeartbeats 1600000 in
theorem orders_a (w : World) (A1 A2 A3 : Option Addr) (n1 c1 n2 c2 n3 c3 : Nat) (za zb zc : List Nat) (y z : Int) (H1 : Hid (Arg w w.heap.size A1 n1 c1 za)) (H2 : Hid (Arg w w.heap.size A2 n2 c2 zb)) (H3 : Hid (Arg w w.heap.size A3 n3 c3 zc))
    (X : Hid (orderV za zb = 1)) (Y : Hid (orderV zb zc = y)) (Z : Hid (orderV za zc = z)) (NX : Hid (orderV zb za = -1)) (S : Hid (decide (za = zb) = false))  :
    Calls Try.prog 12 #[.slice A1 n1 c1, .slice A2 n2 c2, .slice A3 n3 c3] w fun e w' => e = .returned (.bool true) ∧ Below w.heap.size w w' := by
  go_enter Try.func12, Try.ntmps12
  go_wp2_with fail
  refine (order_to _ _ _ _ _ _ _ _ _ _ _ 1 H1.out H2.out X.out).mono ?_
  rintro e w2 ⟨rfl, rfl⟩
  go_wp2_with fail
  refine (order_to _ _ _ _ _ _ _ _ _ _ _ y H2.out H3.out Y.out).mono ?_
  rintro e w2 ⟨rfl, rfl⟩
  go_wp2_with fail
  refine (order_to _ _ _ _ _ _ _ _ _ _ _ z H1.out H3.out Z.out).mono ?_
  rintro e w2 ⟨rfl, rfl⟩
  go_wp2_with fail
  refine (awake2_any _).mono ?_
  rintro e w1 ⟨rfl, hbel⟩
  have HB := Lib.hid hbel
  have G1 := Lib.hid (H1.out.below hbel)
  have G2 := Lib.hid (H2.out.below hbel)
  clear hbel
  go_wp2_with fail
  refine (rorder_to _ _ _ _ _ _ _ _ _ _ _ 1 G1.out G2.out X.out).mono ?_
  rintro e w2 ⟨rfl, t1, rfl⟩
  go_wp2_with fail
  refine (order_to _ _ _ _ _ _ _ _ _ _ _ (-1) (G2.out.drewN t1) (G1.out.drewN t1) NX.out).mono ?_
  rintro e w2 ⟨rfl, rfl⟩
  go_wp2_with fail
  refine (order_to _ _ _ _ _ _ _ _ _ _ _ 0 (G1.out.drewN t1) (G1.out.drewN t1) (orderV_self za)).mono ?_
  rintro e w2 ⟨rfl, rfl⟩
  go_wp2_with fail
  refine (same_any _ _ _ _ _ _ _ _ _ _ _ false S.out (G1.out.drewN t1) (G2.out.drewN t1)).mono ?_
  rintro e w2 ⟨rfl, t2, rfl⟩
  go_wp2
  go_ret
  exact ⟨rfl, HB.out.trans (below_drews (Below.refl _ _) _)⟩

set_option maxRecDepth 100000 in
set_option maxHeartbeats 1600000 in
theorem orders_b0 (w : World) (A1 A2 A3 : Option Addr) (n1 c1 n2 c2 n3 c3 : Nat) (za zb zc : List Nat) (z : Int) (H1 : Hid (Arg w w.heap.size A1 n1 c1 za)) (H2 : Hid (Arg w w.heap.size A2 n2 c2 zb)) (H3 : Hid (Arg w w.heap.size A3 n3 c3 zc))
    (X : Hid (orderV za zb = 0)) (Y : Hid (orderV zb zc = 1)) (Z : Hid (orderV za zc = z)) (NX : Hid (orderV zb za = 0)) (S : Hid (decide (za = zb) = true))  :
    Calls Try.prog 12 #[.slice A1 n1 c1, .slice A2 n2 c2, .slice A3 n3 c3] w fun e w' => e = .returned (.bool true) ∧ Below w.heap.size w w' := by
  go_enter Try.func12, Try.ntmps12
  go_wp2_with fail
  refine (order_to _ _ _ _ _ _ _ _ _ _ _ 0 H1.out H2.out X.out).mono ?_
  rintro e w2 ⟨rfl, rfl⟩
  go_wp2_with fail
  refine (order_to _ _ _ _ _ _ _ _ _ _ _ 1 H2.out H3.out Y.out).mono ?_
  rintro e w2 ⟨rfl, rfl⟩
  go_wp2_with fail
  refine (order_to _ _ _ _ _ _ _ _ _ _ _ z H1.out H3.out Z.out).mono ?_
  rintro e w2 ⟨rfl, rfl⟩
  go_wp2_with fail
  refine (awake2_any _).mono ?_
  rintro e w1 ⟨rfl, hbel⟩
  have HB := Lib.hid hbel
  have G1 := Lib.hid (H1.out.below hbel)
  have G2 := Lib.hid (H2.out.below hbel)
  clear hbel
  go_wp2_with fail
  refine (rorder_to _ _ _ _ _ _ _ _ _ _ _ 0 G1.out G2.out X.out).mono ?_
  rintro e w2 ⟨rfl, t1, rfl⟩
  go_wp2_with fail
  refine (order_to _ _ _ _ _ _ _ _ _ _ _ 0 (G2.out.drewN t1) (G1.out.drewN t1) NX.out).mono ?_
  rintro e w2 ⟨rfl, rfl⟩
  go_wp2_with fail
  refine (order_to _ _ _ _ _ _ _ _ _ _ _ 0 (G1.out.drewN t1) (G1.out.drewN t1) (orderV_self za)).mono ?_
  rintro e w2 ⟨rfl, rfl⟩
  go_wp2_with fail
  refine (same_any _ _ _ _ _ _ _ _ _ _ _ true S.out (G1.out.drewN t1) (G2.out.drewN t1)).mono ?_
  rintro e w2 ⟨rfl, t2, rfl⟩
  go_wp2
  go_ret
  exact ⟨rfl, HB.out.trans (below_drews (Below.refl _ _) _)⟩

set_option maxRecDepth 100000 in
set_option maxHeartbeats 1600000 in
theorem orders_b1 (w : World) (A1 A2 A3 : Option Addr) (n1 c1 n2 c2 n3 c3 : Nat) (za zb zc : List Nat) (z : Int) (H1 : Hid (Arg w w.heap.size A1 n1 c1 za)) (H2 : Hid (Arg w w.heap.size A2 n2 c2 zb)) (H3 : Hid (Arg w w.heap.size A3 n3 c3 zc))
    (X : Hid (orderV za zb = (-1))) (Y : Hid (orderV zb zc = 1)) (Z : Hid (orderV za zc = z)) (NX : Hid (orderV zb za = 1)) (S : Hid (decide (za = zb) = false))  :
    Calls Try.prog 12 #[.slice A1 n1 c1, .slice A2 n2 c2, .slice A3 n3 c3] w fun e w' => e = .returned (.bool true) ∧ Below w.heap.size w w' := by
  go_enter Try.func12, Try.ntmps12
  go_wp2_with fail
  refine (order_to _ _ _ _ _ _ _ _ _ _ _ (-1) H1.out H2.out X.out).mono ?_
  rintro e w2 ⟨rfl, rfl⟩
  go_wp2_with fail
  refine (order_to _ _ _ _ _ _ _ _ _ _ _ 1 H2.out H3.out Y.out).mono ?_
  rintro e w2 ⟨rfl, rfl⟩
  go_wp2_with fail
  refine (order_to _ _ _ _ _ _ _ _ _ _ _ z H1.out H3.out Z.out).mono ?_
  rintro e w2 ⟨rfl, rfl⟩
  go_wp2_with fail
  refine (awake2_any _).mono ?_
  rintro e w1 ⟨rfl, hbel⟩
  have HB := Lib.hid hbel
  have G1 := Lib.hid (H1.out.below hbel)
  have G2 := Lib.hid (H2.out.below hbel)
  clear hbel
  go_wp2_with fail
  refine (rorder_to _ _ _ _ _ _ _ _ _ _ _ (-1) G1.out G2.out X.out).mono ?_
  rintro e w2 ⟨rfl, t1, rfl⟩
  go_wp2_with fail
  refine (order_to _ _ _ _ _ _ _ _ _ _ _ 1 (G2.out.drewN t1) (G1.out.drewN t1) NX.out).mono ?_
  rintro e w2 ⟨rfl, rfl⟩
  go_wp2_with fail
  refine (order_to _ _ _ _ _ _ _ _ _ _ _ 0 (G1.out.drewN t1) (G1.out.drewN t1) (orderV_self za)).mono ?_
  rintro e w2 ⟨rfl, rfl⟩
  go_wp2_with fail
  refine (same_any _ _ _ _ _ _ _ _ _ _ _ false S.out (G1.out.drewN t1) (G2.out.drewN t1)).mono ?_
  rintro e w2 ⟨rfl, t2, rfl⟩
  go_wp2
  go_ret
  exact ⟨rfl, HB.out.trans (below_drews (Below.refl _ _) _)⟩

set_option maxRecDepth 100000 in
set_option maxHeartbeats 1600000 in
theorem orders_c0 (w : World) (A1 A2 A3 : Option Addr) (n1 c1 n2 c2 n3 c3 : Nat) (za zb zc : List Nat) (y z : Int) (H1 : Hid (Arg w w.heap.size A1 n1 c1 za)) (H2 : Hid (Arg w w.heap.size A2 n2 c2 zb)) (H3 : Hid (Arg w w.heap.size A3 n3 c3 zc))
    (X : Hid (orderV za zb = 0)) (Y : Hid (orderV zb zc = y)) (Z : Hid (orderV za zc = z)) (NX : Hid (orderV zb za = 0)) (S : Hid (decide (za = zb) = true)) (hy : y ≤ 0) (hz : z ≤ 0) :
    Calls Try.prog 12 #[.slice A1 n1 c1, .slice A2 n2 c2, .slice A3 n3 c3] w fun e w' => e = .returned (.bool true) ∧ Below w.heap.size w w' := by
  have hd : decide ((0 : Int) < z) = false := decide_eq_false (by omega)
  go_enter Try.func12, Try.ntmps12
  go_wp2_with fail
  refine (order_to _ _ _ _ _ _ _ _ _ _ _ 0 H1.out H2.out X.out).mono ?_
  rintro e w2 ⟨rfl, rfl⟩
  go_wp2_with fail
  refine (order_to _ _ _ _ _ _ _ _ _ _ _ y H2.out H3.out Y.out).mono ?_
  rintro e w2 ⟨rfl, rfl⟩
  go_wp2_with fail
  refine (order_to _ _ _ _ _ _ _ _ _ _ _ z H1.out H3.out Z.out).mono ?_
  rintro e w2 ⟨rfl, rfl⟩
  go_wp2_with fail
  refine (awake2_any _).mono ?_
  rintro e w1 ⟨rfl, hbel⟩
  have HB := Lib.hid hbel
  have G1 := Lib.hid (H1.out.below hbel)
  have G2 := Lib.hid (H2.out.below hbel)
  clear hbel
  go_wp2_with fail
  refine (rorder_to _ _ _ _ _ _ _ _ _ _ _ 0 G1.out G2.out X.out).mono ?_
  rintro e w2 ⟨rfl, t1, rfl⟩
  go_wp2_with fail
  refine (order_to _ _ _ _ _ _ _ _ _ _ _ 0 (G2.out.drewN t1) (G1.out.drewN t1) NX.out).mono ?_
  rintro e w2 ⟨rfl, rfl⟩
  go_wp2_with fail
  refine (order_to _ _ _ _ _ _ _ _ _ _ _ 0 (G1.out.drewN t1) (G1.out.drewN t1) (orderV_self za)).mono ?_
  rintro e w2 ⟨rfl, rfl⟩
  go_wp2_with fail
  refine (same_any _ _ _ _ _ _ _ _ _ _ _ true S.out (G1.out.drewN t1) (G2.out.drewN t1)).mono ?_
  rintro e w2 ⟨rfl, t2, rfl⟩
  go_wp2
  go_ret
  exact ⟨rfl, HB.out.trans (below_drews (Below.refl _ _) _)⟩

set_option maxRecDepth 100000 in
set_option maxHeartbeats 1600000 in
theorem orders_c1 (w : World) (A1 A2 A3 : Option Addr) (n1 c1 n2 c2 n3 c3 : Nat) (za zb zc : List Nat) (y : Int) (H1 : Hid (Arg w w.heap.size A1 n1 c1 za)) (H2 : Hid (Arg w w.heap.size A2 n2 c2 zb)) (H3 : Hid (Arg w w.heap.size A3 n3 c3 zc))
    (X : Hid (orderV za zb = (-1))) (Y : Hid (orderV zb zc = y)) (Z : Hid (orderV za zc = (-1))) (NX : Hid (orderV zb za = 1)) (S : Hid (decide (za = zb) = false)) (hy : y ≤ 0) :
    Calls Try.prog 12 #[.slice A1 n1 c1, .slice A2 n2 c2, .slice A3 n3 c3] w fun e w' => e = .returned (.bool true) ∧ Below w.heap.size w w' := by
  go_enter Try.func12, Try.ntmps12
  go_wp2_with fail
  refine (order_to _ _ _ _ _ _ _ _ _ _ _ (-1) H1.out H2.out X.out).mono ?_
  rintro e w2 ⟨rfl, rfl⟩
  go_wp2_with fail
  refine (order_to _ _ _ _ _ _ _ _ _ _ _ y H2.out H3.out Y.out).mono ?_
  rintro e w2 ⟨rfl, rfl⟩
  go_wp2_with fail
  refine (order_to _ _ _ _ _ _ _ _ _ _ _ (-1) H1.out H3.out Z.out).mono ?_
  rintro e w2 ⟨rfl, rfl⟩
  go_wp2_with fail
  refine (awake2_any _).mono ?_
  rintro e w1 ⟨rfl, hbel⟩
  have HB := Lib.hid hbel
  have G1 := Lib.hid (H1.out.below hbel)
  have G2 := Lib.hid (H2.out.below hbel)
  clear hbel
  go_wp2_with fail
  refine (rorder_to _ _ _ _ _ _ _ _ _ _ _ (-1) G1.out G2.out X.out).mono ?_
  rintro e w2 ⟨rfl, t1, rfl⟩
  go_wp2_with fail
  refine (order_to _ _ _ _ _ _ _ _ _ _ _ 1 (G2.out.drewN t1) (G1.out.drewN t1) NX.out).mono ?_
  rintro e w2 ⟨rfl, rfl⟩
  go_wp2_with fail
  refine (order_to _ _ _ _ _ _ _ _ _ _ _ 0 (G1.out.drewN t1) (G1.out.drewN t1) (orderV_self za)).mono ?_
  rintro e w2 ⟨rfl, rfl⟩
  go_wp2_with fail
  refine (same_any _ _ _ _ _ _ _ _ _ _ _ false S.out (G1.out.drewN t1) (G2.out.drewN t1)).mono ?_
  rintro e w2 ⟨rfl, t2, rfl⟩
  go_wp2
  go_ret
  exact ⟨rfl, HB.out.trans (below_drews (Below.refl _ _) _)⟩

theorem hashOrders_walk (A1 : Option Addr) (n1 c1 : Nat) (za : List Nat) (A2 : Option Addr) (n2 c2 : Nat) (zb : List Nat) (A3 : Option Addr) (n3 c3 : Nat) (zc : List Nat) (w : World)
    (h1 : Arg w w.heap.size A1 n1 c1 za) (_ : c1 ≤ 140737488351232) (h2 : Arg w w.heap.size A2 n2 c2 zb) (_ : c2 ≤ 140737488351232) (h3 : Arg w w.heap.size A3 n3 c3 zc) (_ : c3 ≤ 140737488351232) :
    Calls Try.prog 12 #[.slice A1 n1 c1, .slice A2 n2 c2, .slice A3 n3 c3] w fun e w' => e = .returned (.bool true) ∧ Below w.heap.size w w' := by
  have hx := orderV_bd za zb
  have hy := orderV_bd zb zc
  have hz := orderV_bd za zc
  have hn := orderV_neg za zb
  have hs : orderV za zb ≠ 0 → decide (za = zb) = false := fun h => decide_eq_false (fun e => h (by rw [e]; exact orderV_self zb))
  have ht := fun p q => orderV_le_trans (a := za) (b := zb) (c := zc) p q
  rcases hx with hx | hx | hx
  · rw [hx] at hn
    rcases hy with hy | hy | hy
    · have := (ht (by omega) (by omega)).2 (by omega)
      exact orders_c1 w A1 A2 A3 n1 c1 n2 c2 n3 c3 za zb zc _ h1 h2 h3 hx rfl (by show orderV za zc = -1; omega) (by show _ = (1 : Int); rw [hn]; rfl) (hs (by omega)) (by omega)
    · have := (ht (by omega) (by omega)).2 (by omega)
      exact orders_c1 w A1 A2 A3 n1 c1 n2 c2 n3 c3 za zb zc _ h1 h2 h3 hx rfl (by show orderV za zc = -1; omega) (by show _ = (1 : Int); rw [hn]; rfl) (hs (by omega)) (by omega)
    · exact orders_b1 w A1 A2 A3 n1 c1 n2 c2 n3 c3 za zb zc _ h1 h2 h3 hx hy rfl (by show _ = (1 : Int); rw [hn]; rfl) (hs (by omega))
  · rw [hx] at hn
    rcases hy with hy | hy | hy
    · have := (ht (by omega) (by omega)).1
      exact orders_c0 w A1 A2 A3 n1 c1 n2 c2 n3 c3 za zb zc _ _ h1 h2 h3 hx rfl rfl (by show _ = (0 : Int); rw [hn]; rfl) (decide_eq_true (orderV_zero hx)) (by omega) this
    · have := (ht (by omega) (by omega)).1
      exact orders_c0 w A1 A2 A3 n1 c1 n2 c2 n3 c3 za zb zc _ _ h1 h2 h3 hx rfl rfl (by show _ = (0 : Int); rw [hn]; rfl) (decide_eq_true (orderV_zero hx)) (by omega) this
    · exact orders_b0 w A1 A2 A3 n1 c1 n2 c2 n3 c3 za zb zc _ h1 h2 h3 hx hy rfl (by show _ = (0 : Int); rw [hn]; rfl) (decide_eq_true (orderV_zero hx))
  · rw [hx] at hn
    exact orders_a w A1 A2 A3 n1 c1 n2 c2 n3 c3 za zb zc _ _ h1 h2 h3 hx rfl rfl hn (hs (by omega))
end Go.Proofs.Ytjgnldalmenahaa
