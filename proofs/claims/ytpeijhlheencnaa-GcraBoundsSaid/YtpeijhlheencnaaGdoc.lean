/- The document's Granted. -/
import Derived.Test.YtpeijhlheencnaaTimes
import Derived.Test.YtpeijhlheencnaaGcra
namespace Go.Proofs.Ytpeijhlheencnaa
open Go.RowKit
set_option maxRecDepth 100000

theorem cmp_any (w : World) (A B : Option Addr) (n m c d : Nat) (xs ys : List Nat) (N M : Nat) (hA : Num w A n c xs N) (hB : Num w B m d ys M) :
    Calls Try.prog 60 #[.slice A n c, .slice B m d] w (ValEnd w (.int .i64 (cmpV N M))) :=
  (comp_any w A B n m c d xs ys N M hA hB).mono fun _ _ ⟨he, t, hw⟩ => ⟨he, by rw [hw]; exact below_drewN (Below.refl _ _) t⟩
set_option maxHeartbeats 400000 in
theorem word5_any (w : World) (m : Nat) (hm : m ≤ 9223372036854775807) : Calls Try.prog 57 #[.int .i64 (m : Int)] w (NumEnd w m 2) := by
  have e1 : IntKind.u64.wrap (m : Int) = (m : Int) := u64_in (by omega) (by omega)
  have HW := Lib.hid (fun w => word_any w m (by omega))
  clear hm
  go_enter Try.func57, Try.ntmps57
  go_wp2_with fail
  with_reducible refine (HW.out _).mono ?_
  rintro e w1 ⟨A, n, c, xs, rfl, hnum, hl, hb⟩
  have HN := Lib.hid hnum
  have HB := Lib.hid hb
  clear hnum hb
  go_wp2
  go_ret
  exact ⟨A, n, c, xs, rfl, HN.out, hl, HB.out⟩


theorem word5_succ (w : World) (m : Nat) (hm : m ≤ 9223372036854775806) : Calls Try.prog 57 #[.int .i64 ((m : Int) + 1)] w (NumEnd w (m + 1) 2) := by
  have := word5_any w (m + 1) (by omega)
  rw [Int.natCast_add] at this
  exact this

theorem word5_max (w : World) : Calls Try.prog 57 #[.int .i64 4611686018427387903] w (NumEnd w 4611686018427387903 2) := word5_any w 4611686018427387903 (by omega)
theorem cmp_val (w : World) (A B : Option Addr) (n m c d : Nat) (xs ys : List Nat) (N M : Nat) (v : Int) (hv : cmpV N M = v) (hA : Num w A n c xs N) (hB : Num w B m d ys M) :
    Calls Try.prog 60 #[.slice A n c, .slice B m d] w (ValEnd w (.int .i64 v)) := by
  rw [← hv]; exact cmp_any w A B n m c d xs ys N M hA hB

set_option maxHeartbeats 3200000 in
theorem granted_yes (w : World) (T Tau tat now k B : Nat) (v1 v2 : Int) (hT : 1 ≤ T) (hT2 : T ≤ 4611686018427387903) (hU : Tau ≤ 4611686018427387903) (h2 : now ≤ 4611686018427387903) (h3 : k + 1 ≤ 4611686018427387903)
    (hB : B ≤ 4611686018427387903) (hm : (if tat < now then (now : Int) else (tat : Int)) = (B : Int))
    (hv1 : cmpV (B + k * T) (now + Tau) = v1) (hv2 : cmpV (B + (k + 1) * T) 4611686018427387903 = v2) (hd : v1 ≤ 0) :
    Calls Try.prog 47 #[.agg #[.int .i64 (T : Int), .int .i64 (Tau : Int)], .int .i64 (tat : Int), .int .i64 (now : Int), .int .i64 ((k : Int) + 1)] w (ValEnd w (.bool (decide (v2 ≤ 0)))) := by
  have q0 : ((k : Int) + 1 == 0) = false := beq_eq_false_iff_ne.2 (by omega)
  have e1 : IntKind.i64.wrap ((k : Int) + 1 - 1) = (k : Int) := by rw [Int.add_sub_cancel]; exact IntWalk.i64_in _ (by omega)
  have e2 : IntKind.i64.wrap (k : Int) = (k : Int) := IntWalk.i64_in _ (by omega)
  have HV1 := Lib.hid hv1
  have HV2 := Lib.hid hv2
  clear hv1 hv2
  go_enter Try.func47, Try.ntmps47
  go_wp2_with fail
  with_reducible refine (word5_any _ B (by omega)).mono ?_
  rintro e w1 ⟨Ab, nb, cb, xb, rfl, hnum, hlb, hb⟩
  have bl := (BlkL.new w [.int .i64 (T : Int), .int .i64 (Tau : Int)] 23).below hb
  have HB1 := Lib.hid (((Below.refl w.heap.size w).alloc (Nat.le_refl _) _).trans (hb.mono (by simp)))
  have Nb1 := Lib.hid hnum
  clear hb hnum
  have ca1 := bl.cell 0 _ rfl
  have cb1 := bl.cell 1 _ rfl
  have BL1 := Lib.hid bl
  clear bl
  go_wp2_with fail
  go_region_held3 (fun w' => w'.cell? ⟨w.heap.size, 0, none⟩ = some (.int .i64 (T : Int)) ∧ w'.cell? ⟨w.heap.size, 1, none⟩ = some (.int .i64 (Tau : Int)))
    (go_keep)
    (first
      | ((with_reducible refine (word5_any _ k (by omega)).mono ?_); rintro e w2 ⟨Ap, np, cp, xp, rfl, hnum, hlp, hb⟩; have Nb2 := Lib.hid ((Nb1.out.below (Below.refl _ _).drew).below hb); have Np2 := Lib.hid hnum; clear hnum; have bl := BL1.out.drew.below hb; have HB2 := Lib.hid (HB1.out.drew.trans (hb.mono HB1.out.size)); clear hb; have ca2 := bl.cell 0 _ rfl; have cb2 := bl.cell 1 _ rfl; have BL2 := Lib.hid bl; clear bl)
      | ((with_reducible refine (word5_any _ T (by omega)).mono ?_); rintro e w3 ⟨At, nt, ct, xt, rfl, hnum, hlt, hb⟩; have Nb3 := Lib.hid (Nb2.out.below hb); have Np3 := Lib.hid (Np2.out.below hb); have Nt3 := Lib.hid hnum; clear hnum; have bl := BL2.out.below hb; have HB3 := Lib.hid (HB2.out.trans (hb.mono HB2.out.size)); clear hb; have ca3 := bl.cell 0 _ rfl; have cb3 := bl.cell 1 _ rfl; have BL3 := Lib.hid bl; clear bl)
      | ((with_reducible refine (times_any _ _ _ _ _ _ _ _ _ k T Np3.out Nt3.out (by omega) (by omega)).mono ?_); rintro e w4 ⟨Aq, nq, cq, xq, rfl, hnum, hlq, hb⟩; have Nb4 := Lib.hid (Nb3.out.below hb); have Np4 := Lib.hid (Np3.out.below hb); have Nt4 := Lib.hid (Nt3.out.below hb); have Nq4 := Lib.hid hnum; clear hnum; have bl := BL3.out.below hb; have HB4 := Lib.hid (HB3.out.trans (hb.mono HB3.out.size)); clear hb; have ca4 := bl.cell 0 _ rfl; have cb4 := bl.cell 1 _ rfl; have BL4 := Lib.hid bl; clear bl)
      | ((with_reducible refine (plus_any _ _ _ _ _ _ _ _ _ B (k * T) Nb4.out Nq4.out (by omega) (by omega)).mono ?_); rintro e w5 ⟨As, ns, cs, xs, rfl, hnum, hls, hb⟩; have Nb5 := Lib.hid (Nb4.out.below hb); have Np5 := Lib.hid (Np4.out.below hb); have Nt5 := Lib.hid (Nt4.out.below hb); have Nq5 := Lib.hid (Nq4.out.below hb); have Ns5 := Lib.hid hnum; clear hnum; have bl := BL4.out.below hb; have HB5 := Lib.hid (HB4.out.trans (hb.mono HB4.out.size)); clear hb; have ca5 := bl.cell 0 _ rfl; have cb5 := bl.cell 1 _ rfl; have BL5 := Lib.hid bl; clear bl))
  rename_i hHeld
  clear hHeld ca1 cb1 ca2 cb2 ca3 cb3 ca4 cb4 Np2 Np3 Np4 Np5 Nt3 Nt4 Nt5 Nq4 Nq5 Nb1 Nb2 Nb3 Nb4 BL1 BL2 BL3 BL4 HB1 HB2 HB3 HB4
  go_wp2_with fail
  go_region_held3 (fun w' => w'.cell? ⟨w.heap.size, 0, none⟩ = some (.int .i64 (T : Int)) ∧ w'.cell? ⟨w.heap.size, 1, none⟩ = some (.int .i64 (Tau : Int)))
    (go_keep)
    (first
      | ((with_reducible refine (word5_succ _ k (by omega)).mono ?_); rintro e w6 ⟨Ap, np, cp, xp, rfl, hnum, hlp, hb⟩; have Nb6 := Lib.hid ((Nb5.out.below (Below.refl _ _).drew).below hb); have Ns6 := Lib.hid ((Ns5.out.below (Below.refl _ _).drew).below hb); have Np6 := Lib.hid hnum; clear hnum; have bl := BL5.out.drew.below hb; have HB6 := Lib.hid (HB5.out.drew.trans (hb.mono HB5.out.size)); clear hb; have ca6 := bl.cell 0 _ rfl; have cb6 := bl.cell 1 _ rfl; have BL6 := Lib.hid bl; clear bl)
      | ((with_reducible refine (word5_any _ T (by omega)).mono ?_); rintro e w7 ⟨At, nt, ct, xt, rfl, hnum, hlt, hb⟩; have Nb7 := Lib.hid (Nb6.out.below hb); have Ns7 := Lib.hid (Ns6.out.below hb); have Np7 := Lib.hid (Np6.out.below hb); have Nt7 := Lib.hid hnum; clear hnum; have bl := BL6.out.below hb; have HB7 := Lib.hid (HB6.out.trans (hb.mono HB6.out.size)); clear hb; have ca7 := bl.cell 0 _ rfl; have cb7 := bl.cell 1 _ rfl; have BL7 := Lib.hid bl; clear bl)
      | ((with_reducible refine (times_any _ _ _ _ _ _ _ _ _ (k + 1) T Np7.out Nt7.out (by omega) (by omega)).mono ?_); rintro e w8 ⟨Aq, nq, cq, xq, rfl, hnum, hlq, hb⟩; have Nb8 := Lib.hid (Nb7.out.below hb); have Ns8 := Lib.hid (Ns7.out.below hb); have Np8 := Lib.hid (Np7.out.below hb); have Nt8 := Lib.hid (Nt7.out.below hb); have Nq8 := Lib.hid hnum; clear hnum; have bl := BL7.out.below hb; have HB8 := Lib.hid (HB7.out.trans (hb.mono HB7.out.size)); clear hb; have ca8 := bl.cell 0 _ rfl; have cb8 := bl.cell 1 _ rfl; have BL8 := Lib.hid bl; clear bl)
      | ((with_reducible refine (plus_any _ _ _ _ _ _ _ _ _ B ((k + 1) * T) Nb8.out Nq8.out (by omega) (by omega)).mono ?_); rintro e w9 ⟨Ae, ne, ce, xe, rfl, hnum, hle, hb⟩; have Nb9 := Lib.hid (Nb8.out.below hb); have Ns9 := Lib.hid (Ns8.out.below hb); have Np9 := Lib.hid (Np8.out.below hb); have Nt9 := Lib.hid (Nt8.out.below hb); have Nq9 := Lib.hid (Nq8.out.below hb); have Ne9 := Lib.hid hnum; clear hnum; have bl := BL8.out.below hb; have HB9 := Lib.hid (HB8.out.trans (hb.mono HB8.out.size)); clear hb; have ca9 := bl.cell 0 _ rfl; have cb9 := bl.cell 1 _ rfl; have BL9 := Lib.hid bl; clear bl))
  rename_i hHeld
  clear hHeld ca5 cb5 ca6 cb6 ca7 cb7 ca8 cb8 Np6 Np7 Np8 Np9 Nt7 Nt8 Nt9 Nq8 Nq9 Ns5 Ns6 Ns7 Ns8 Nb5 Nb6 Nb7 Nb8 Nb9 BL5 BL6 BL7 BL8 HB5 HB6 HB7 HB8 
  go_wp2_with fail
  go_region_held3 (fun w' => w'.cell? ⟨w.heap.size, 0, none⟩ = some (.int .i64 (T : Int)) ∧ w'.cell? ⟨w.heap.size, 1, none⟩ = some (.int .i64 (Tau : Int)))
    (go_keep)
    (first
      | ((with_reducible refine (word5_any _ now (by omega)).mono ?_); rintro e w10 ⟨Ap, np, cp, xp, rfl, hnum, hlp, hb⟩; have Ns10 := Lib.hid ((Ns9.out.below (Below.refl _ _).drew).below hb); have Ne10 := Lib.hid ((Ne9.out.below (Below.refl _ _).drew).below hb); have Np10 := Lib.hid hnum; clear hnum; have bl := BL9.out.drew.below hb; have HB10 := Lib.hid (HB9.out.drew.trans (hb.mono HB9.out.size)); clear hb; have ca10 := bl.cell 0 _ rfl; have cb10 := bl.cell 1 _ rfl; have BL10 := Lib.hid bl; clear bl)
      | ((with_reducible refine (word5_any _ Tau (by omega)).mono ?_); rintro e w11 ⟨At, nt, ct, xt, rfl, hnum, hlt, hb⟩; have Ns11 := Lib.hid (Ns10.out.below hb); have Ne11 := Lib.hid (Ne10.out.below hb); have Np11 := Lib.hid (Np10.out.below hb); have Nt11 := Lib.hid hnum; clear hnum; have bl := BL10.out.below hb; have HB11 := Lib.hid (HB10.out.trans (hb.mono HB10.out.size)); clear hb; have ca11 := bl.cell 0 _ rfl; have cb11 := bl.cell 1 _ rfl; have BL11 := Lib.hid bl; clear bl)
      | ((with_reducible refine (plus_any _ _ _ _ _ _ _ _ _ now Tau Np11.out Nt11.out (by omega) (by omega)).mono ?_); rintro e w12 ⟨Aq, nq, cq, xq, rfl, hnum, hlq, hb⟩; have Ns12 := Lib.hid (Ns11.out.below hb); have Ne12 := Lib.hid (Ne11.out.below hb); have Np12 := Lib.hid (Np11.out.below hb); have Nt12 := Lib.hid (Nt11.out.below hb); have Nq12 := Lib.hid hnum; clear hnum; have bl := BL11.out.below hb; have HB12 := Lib.hid (HB11.out.trans (hb.mono HB11.out.size)); clear hb; have ca12 := bl.cell 0 _ rfl; have cb12 := bl.cell 1 _ rfl; have BL12 := Lib.hid bl; clear bl)
      | ((with_reducible refine (cmp_val _ _ _ _ _ _ _ _ _ (B + k * T) (now + Tau) v1 HV1.out Ns12.out Nq12.out).mono ?_); rintro e w13 ⟨rfl, hb⟩; have Ns13 := Lib.hid (Ns12.out.below hb); have Ne13 := Lib.hid (Ne12.out.below hb); have Np13 := Lib.hid (Np12.out.below hb); have Nt13 := Lib.hid (Nt12.out.below hb); have Nq13 := Lib.hid (Nq12.out.below hb); have bl := BL12.out.below hb; have HB13 := Lib.hid (HB12.out.trans (hb.mono HB12.out.size)); clear hb; have ca13 := bl.cell 0 _ rfl; have cb13 := bl.cell 1 _ rfl; have BL13 := Lib.hid bl; clear bl)
      | ((with_reducible refine (word5_max _).mono ?_); rintro e w14 ⟨Am, nm, cm, xm, rfl, hnum, hlm, hb⟩; have Ns14 := Lib.hid (Ns13.out.below hb); have Ne14 := Lib.hid (Ne13.out.below hb); have Np14 := Lib.hid (Np13.out.below hb); have Nt14 := Lib.hid (Nt13.out.below hb); have Nq14 := Lib.hid (Nq13.out.below hb); have Nm14 := Lib.hid hnum; clear hnum; have bl := BL13.out.below hb; have HB14 := Lib.hid (HB13.out.trans (hb.mono HB13.out.size)); clear hb; have ca14 := bl.cell 0 _ rfl; have cb14 := bl.cell 1 _ rfl; have BL14 := Lib.hid bl; clear bl)
      | ((with_reducible refine (cmp_val _ _ _ _ _ _ _ _ _ (B + (k + 1) * T) 4611686018427387903 v2 HV2.out Ne14.out Nm14.out).mono ?_); rintro e w15 ⟨rfl, hb⟩; have Ns15 := Lib.hid (Ns14.out.below hb); have Ne15 := Lib.hid (Ne14.out.below hb); have Np15 := Lib.hid (Np14.out.below hb); have Nt15 := Lib.hid (Nt14.out.below hb); have Nq15 := Lib.hid (Nq14.out.below hb); have Nm15 := Lib.hid (Nm14.out.below hb); have bl := BL14.out.below hb; have HB15 := Lib.hid (HB14.out.trans (hb.mono HB14.out.size)); clear hb; have ca15 := bl.cell 0 _ rfl; have cb15 := bl.cell 1 _ rfl; have BL15 := Lib.hid bl; clear bl))
  all_goals
    go_wp2
    go_ret
    exact ⟨rfl, HB15.out⟩


set_option maxHeartbeats 3200000 in
theorem granted_no (w : World) (T Tau tat now k B : Nat) (v1 v2 : Int) (hT : 1 ≤ T) (hT2 : T ≤ 4611686018427387903) (hU : Tau ≤ 4611686018427387903) (h2 : now ≤ 4611686018427387903) (h3 : k + 1 ≤ 4611686018427387903)
    (hB : B ≤ 4611686018427387903) (hm : (if tat < now then (now : Int) else (tat : Int)) = (B : Int))
    (hv1 : cmpV (B + k * T) (now + Tau) = v1) (hv2 : cmpV (B + (k + 1) * T) 4611686018427387903 = v2) (hd : decide (v1 ≤ 0) = false) :
    Calls Try.prog 47 #[.agg #[.int .i64 (T : Int), .int .i64 (Tau : Int)], .int .i64 (tat : Int), .int .i64 (now : Int), .int .i64 ((k : Int) + 1)] w (ValEnd w (.bool false)) := by
  have q0 : ((k : Int) + 1 == 0) = false := beq_eq_false_iff_ne.2 (by omega)
  have e1 : IntKind.i64.wrap ((k : Int) + 1 - 1) = (k : Int) := by rw [Int.add_sub_cancel]; exact IntWalk.i64_in _ (by omega)
  have e2 : IntKind.i64.wrap (k : Int) = (k : Int) := IntWalk.i64_in _ (by omega)
  have HV1 := Lib.hid hv1
  have HV2 := Lib.hid hv2
  clear hv1 hv2
  go_enter Try.func47, Try.ntmps47
  go_wp2_with fail
  with_reducible refine (word5_any _ B (by omega)).mono ?_
  rintro e w1 ⟨Ab, nb, cb, xb, rfl, hnum, hlb, hb⟩
  have bl := (BlkL.new w [.int .i64 (T : Int), .int .i64 (Tau : Int)] 23).below hb
  have HB1 := Lib.hid (((Below.refl w.heap.size w).alloc (Nat.le_refl _) _).trans (hb.mono (by simp)))
  have Nb1 := Lib.hid hnum
  clear hb hnum
  have ca1 := bl.cell 0 _ rfl
  have cb1 := bl.cell 1 _ rfl
  have BL1 := Lib.hid bl
  clear bl
  go_wp2_with fail
  go_region_held3 (fun w' => w'.cell? ⟨w.heap.size, 0, none⟩ = some (.int .i64 (T : Int)) ∧ w'.cell? ⟨w.heap.size, 1, none⟩ = some (.int .i64 (Tau : Int)))
    (go_keep)
    (first
      | ((with_reducible refine (word5_any _ k (by omega)).mono ?_); rintro e w2 ⟨Ap, np, cp, xp, rfl, hnum, hlp, hb⟩; have Nb2 := Lib.hid ((Nb1.out.below (Below.refl _ _).drew).below hb); have Np2 := Lib.hid hnum; clear hnum; have bl := BL1.out.drew.below hb; have HB2 := Lib.hid (HB1.out.drew.trans (hb.mono HB1.out.size)); clear hb; have ca2 := bl.cell 0 _ rfl; have cb2 := bl.cell 1 _ rfl; have BL2 := Lib.hid bl; clear bl)
      | ((with_reducible refine (word5_any _ T (by omega)).mono ?_); rintro e w3 ⟨At, nt, ct, xt, rfl, hnum, hlt, hb⟩; have Nb3 := Lib.hid (Nb2.out.below hb); have Np3 := Lib.hid (Np2.out.below hb); have Nt3 := Lib.hid hnum; clear hnum; have bl := BL2.out.below hb; have HB3 := Lib.hid (HB2.out.trans (hb.mono HB2.out.size)); clear hb; have ca3 := bl.cell 0 _ rfl; have cb3 := bl.cell 1 _ rfl; have BL3 := Lib.hid bl; clear bl)
      | ((with_reducible refine (times_any _ _ _ _ _ _ _ _ _ k T Np3.out Nt3.out (by omega) (by omega)).mono ?_); rintro e w4 ⟨Aq, nq, cq, xq, rfl, hnum, hlq, hb⟩; have Nb4 := Lib.hid (Nb3.out.below hb); have Np4 := Lib.hid (Np3.out.below hb); have Nt4 := Lib.hid (Nt3.out.below hb); have Nq4 := Lib.hid hnum; clear hnum; have bl := BL3.out.below hb; have HB4 := Lib.hid (HB3.out.trans (hb.mono HB3.out.size)); clear hb; have ca4 := bl.cell 0 _ rfl; have cb4 := bl.cell 1 _ rfl; have BL4 := Lib.hid bl; clear bl)
      | ((with_reducible refine (plus_any _ _ _ _ _ _ _ _ _ B (k * T) Nb4.out Nq4.out (by omega) (by omega)).mono ?_); rintro e w5 ⟨As, ns, cs, xs, rfl, hnum, hls, hb⟩; have Nb5 := Lib.hid (Nb4.out.below hb); have Np5 := Lib.hid (Np4.out.below hb); have Nt5 := Lib.hid (Nt4.out.below hb); have Nq5 := Lib.hid (Nq4.out.below hb); have Ns5 := Lib.hid hnum; clear hnum; have bl := BL4.out.below hb; have HB5 := Lib.hid (HB4.out.trans (hb.mono HB4.out.size)); clear hb; have ca5 := bl.cell 0 _ rfl; have cb5 := bl.cell 1 _ rfl; have BL5 := Lib.hid bl; clear bl))
  rename_i hHeld
  clear hHeld ca1 cb1 ca2 cb2 ca3 cb3 ca4 cb4 Np2 Np3 Np4 Np5 Nt3 Nt4 Nt5 Nq4 Nq5 Nb1 Nb2 Nb3 Nb4 BL1 BL2 BL3 BL4 HB1 HB2 HB3 HB4
  go_wp2_with fail
  go_region_held3 (fun w' => w'.cell? ⟨w.heap.size, 0, none⟩ = some (.int .i64 (T : Int)) ∧ w'.cell? ⟨w.heap.size, 1, none⟩ = some (.int .i64 (Tau : Int)))
    (go_keep)
    (first
      | ((with_reducible refine (word5_succ _ k (by omega)).mono ?_); rintro e w6 ⟨Ap, np, cp, xp, rfl, hnum, hlp, hb⟩; have Nb6 := Lib.hid ((Nb5.out.below (Below.refl _ _).drew).below hb); have Ns6 := Lib.hid ((Ns5.out.below (Below.refl _ _).drew).below hb); have Np6 := Lib.hid hnum; clear hnum; have bl := BL5.out.drew.below hb; have HB6 := Lib.hid (HB5.out.drew.trans (hb.mono HB5.out.size)); clear hb; have ca6 := bl.cell 0 _ rfl; have cb6 := bl.cell 1 _ rfl; have BL6 := Lib.hid bl; clear bl)
      | ((with_reducible refine (word5_any _ T (by omega)).mono ?_); rintro e w7 ⟨At, nt, ct, xt, rfl, hnum, hlt, hb⟩; have Nb7 := Lib.hid (Nb6.out.below hb); have Ns7 := Lib.hid (Ns6.out.below hb); have Np7 := Lib.hid (Np6.out.below hb); have Nt7 := Lib.hid hnum; clear hnum; have bl := BL6.out.below hb; have HB7 := Lib.hid (HB6.out.trans (hb.mono HB6.out.size)); clear hb; have ca7 := bl.cell 0 _ rfl; have cb7 := bl.cell 1 _ rfl; have BL7 := Lib.hid bl; clear bl)
      | ((with_reducible refine (times_any _ _ _ _ _ _ _ _ _ (k + 1) T Np7.out Nt7.out (by omega) (by omega)).mono ?_); rintro e w8 ⟨Aq, nq, cq, xq, rfl, hnum, hlq, hb⟩; have Nb8 := Lib.hid (Nb7.out.below hb); have Ns8 := Lib.hid (Ns7.out.below hb); have Np8 := Lib.hid (Np7.out.below hb); have Nt8 := Lib.hid (Nt7.out.below hb); have Nq8 := Lib.hid hnum; clear hnum; have bl := BL7.out.below hb; have HB8 := Lib.hid (HB7.out.trans (hb.mono HB7.out.size)); clear hb; have ca8 := bl.cell 0 _ rfl; have cb8 := bl.cell 1 _ rfl; have BL8 := Lib.hid bl; clear bl)
      | ((with_reducible refine (plus_any _ _ _ _ _ _ _ _ _ B ((k + 1) * T) Nb8.out Nq8.out (by omega) (by omega)).mono ?_); rintro e w9 ⟨Ae, ne, ce, xe, rfl, hnum, hle, hb⟩; have Nb9 := Lib.hid (Nb8.out.below hb); have Ns9 := Lib.hid (Ns8.out.below hb); have Np9 := Lib.hid (Np8.out.below hb); have Nt9 := Lib.hid (Nt8.out.below hb); have Nq9 := Lib.hid (Nq8.out.below hb); have Ne9 := Lib.hid hnum; clear hnum; have bl := BL8.out.below hb; have HB9 := Lib.hid (HB8.out.trans (hb.mono HB8.out.size)); clear hb; have ca9 := bl.cell 0 _ rfl; have cb9 := bl.cell 1 _ rfl; have BL9 := Lib.hid bl; clear bl))
  rename_i hHeld
  clear hHeld ca5 cb5 ca6 cb6 ca7 cb7 ca8 cb8 Np6 Np7 Np8 Np9 Nt7 Nt8 Nt9 Nq8 Nq9 Ns5 Ns6 Ns7 Ns8 Nb5 Nb6 Nb7 Nb8 Nb9 BL5 BL6 BL7 BL8 HB5 HB6 HB7 HB8 
  go_wp2_with fail
  first
    | (go_region_with (first
      | ((with_reducible refine (word5_any _ now (by omega)).mono ?_); rintro e w10 ⟨Ap, np, cp, xp, rfl, hnum, hlp, hb⟩; have Ns10 := Lib.hid ((Ns9.out.below (Below.refl _ _).drew).below hb); have Ne10 := Lib.hid ((Ne9.out.below (Below.refl _ _).drew).below hb); have Np10 := Lib.hid hnum; clear hnum; have bl := BL9.out.drew.below hb; have HB10 := Lib.hid (HB9.out.drew.trans (hb.mono HB9.out.size)); clear hb; have ca10 := bl.cell 0 _ rfl; have cb10 := bl.cell 1 _ rfl; have BL10 := Lib.hid bl; clear bl)
      | ((with_reducible refine (word5_any _ Tau (by omega)).mono ?_); rintro e w11 ⟨At, nt, ct, xt, rfl, hnum, hlt, hb⟩; have Ns11 := Lib.hid (Ns10.out.below hb); have Ne11 := Lib.hid (Ne10.out.below hb); have Np11 := Lib.hid (Np10.out.below hb); have Nt11 := Lib.hid hnum; clear hnum; have bl := BL10.out.below hb; have HB11 := Lib.hid (HB10.out.trans (hb.mono HB10.out.size)); clear hb; have ca11 := bl.cell 0 _ rfl; have cb11 := bl.cell 1 _ rfl; have BL11 := Lib.hid bl; clear bl)
      | ((with_reducible refine (plus_any _ _ _ _ _ _ _ _ _ now Tau Np11.out Nt11.out (by omega) (by omega)).mono ?_); rintro e w12 ⟨Aq, nq, cq, xq, rfl, hnum, hlq, hb⟩; have Ns12 := Lib.hid (Ns11.out.below hb); have Ne12 := Lib.hid (Ne11.out.below hb); have Np12 := Lib.hid (Np11.out.below hb); have Nt12 := Lib.hid (Nt11.out.below hb); have Nq12 := Lib.hid hnum; clear hnum; have bl := BL11.out.below hb; have HB12 := Lib.hid (HB11.out.trans (hb.mono HB11.out.size)); clear hb; have ca12 := bl.cell 0 _ rfl; have cb12 := bl.cell 1 _ rfl; have BL12 := Lib.hid bl; clear bl)
      | ((with_reducible refine (cmp_val _ _ _ _ _ _ _ _ _ (B + k * T) (now + Tau) v1 HV1.out Ns12.out Nq12.out).mono ?_); rintro e w13 ⟨rfl, hb⟩; have Ns13 := Lib.hid (Ns12.out.below hb); have Ne13 := Lib.hid (Ne12.out.below hb); have Np13 := Lib.hid (Np12.out.below hb); have Nt13 := Lib.hid (Nt12.out.below hb); have Nq13 := Lib.hid (Nq12.out.below hb); have bl := BL12.out.below hb; have HB13 := Lib.hid (HB12.out.trans (hb.mono HB12.out.size)); clear hb; have ca13 := bl.cell 0 _ rfl; have cb13 := bl.cell 1 _ rfl; have BL13 := Lib.hid bl; clear bl)))
    | fail
  all_goals
    go_wp2
    go_ret
    exact ⟨rfl, HB13.out⟩


theorem cmpV_le (N M : Nat) : decide (cmpV N M ≤ 0) = decide (N ≤ M) := by
  rcases Nat.lt_trichotomy N M with h | h | h
  · rw [cmpV_lt h]; simp; omega
  · rw [cmpV_eq h]; simp; omega
  · rw [cmpV_gt h]; simp; omega
set_option maxHeartbeats 400000 in
theorem granted5_zero (w : World) (T Tau tat now : Int) :
    Calls Try.prog 47 #[.agg #[.int .i64 T, .int .i64 Tau], .int .i64 tat, .int .i64 now, .int .i64 0] w (ValEnd w (.bool true)) := by
  go_enter Try.func47, Try.ntmps47
  go_wp2
  go_ret
  exact ⟨rfl, (Below.refl _ _).alloc (Nat.le_refl _) _⟩
/-- The document's Granted. -/
theorem granted5_any (w : World) {T Tau tat now n : Nat} (h1 : 1 ≤ T) (h2 : T ≤ 4611686018427387903) (h3 : Tau ≤ 4611686018427387903) (h4 : tat ≤ 4611686018427387903) (h5 : now ≤ 4611686018427387903) (h6 : n ≤ 4611686018427387903) :
    Calls Try.prog 47 #[.agg #[.int .i64 (T : Int), .int .i64 (Tau : Int)], .int .i64 (tat : Int), .int .i64 (now : Int), .int .i64 (n : Int)] w (ValEnd w (.bool (grB T Tau tat now n))) := by
  have hg := gr_tat (n := n) (Tau := Tau) h1 h4 h5
  unfold Gr at hg
  cases n with
  | zero =>
    rw [hg.2 (.inl rfl)]
    exact granted5_zero w _ _ _ _
  | succ k =>
    have hb : grB T Tau tat now (k + 1) = (decide (cmpV (max tat now + k * T) (now + Tau) ≤ 0) && decide (cmpV (max tat now + (k + 1) * T) 4611686018427387903 ≤ 0)) := by
      rw [cmpV_le, cmpV_le, Bool.eq_iff_iff, hg, show k + 1 - 1 = k from rfl]
      simp
    rw [hb, Int.natCast_add]
    have hm : (if tat < now then (now : Int) else (tat : Int)) = ((max tat now : Nat) : Int) := by split <;> omega
    rcases hd : decide (cmpV (max tat now + k * T) (now + Tau) ≤ 0) with _ | _
    · rw [Bool.false_and]
      exact granted_no w T Tau tat now k (max tat now) _ _ h1 h2 h3 h5 h6 (by omega) hm rfl rfl hd
    · rw [Bool.true_and]
      exact granted_yes w T Tau tat now k (max tat now) _ _ h1 h2 h3 h5 h6 (by omega) hm rfl rfl (of_decide_eq_true hd)
end Go.Proofs.Ytpeijhlheencnaa
