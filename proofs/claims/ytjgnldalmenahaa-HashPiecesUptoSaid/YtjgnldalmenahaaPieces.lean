/- The law HashPieces: where bytes are cut counts nothing. -/
import Derived.Test.YtjgnldalmenahaaAwake2
namespace Go.Proofs.Ytjgnldalmenahaa
open Go.RowKit

theorem hupd_to (w : World) (B h0 : Nat) (A : Option Addr) (n c : Nat) (zs : List Nat) (v : Nat) (hh : h0 ≤ 18446744073709551615) (h : Arg w B A n c zs) (hv : updV h0 zs = v) :
    Calls Try.prog 34 #[.int .u64 (h0 : Int), .slice A n c] w fun e w' => e = .returned (.int .u64 (v : Int)) ∧ w = w' := by
  have := hupd_any w B h0 A n c zs hh h
  rw [hv] at this
  exact this
theorem hsum_to (w : World) (B : Nat) (A : Option Addr) (n c : Nat) (zs : List Nat) (v : Nat) (h : Arg w B A n c zs) (hv : sumV zs = v) :
    Calls Try.prog 32 #[.slice A n c] w fun e w' => e = .returned (.int .u64 (v : Int)) ∧ w = w' := by
  have := hsum_any w B A n c zs h
  rw [hv] at this
  exact this

set_option maxRecDepth 100000 in
set_option maxHeartbeats 1600000 in
theorem pieces_any (w : World) (h a b s r : Nat) (A1 A2 : Option Addr) (n c m d : Nat) (zp zq : List Nat) (hh : h ≤ 18446744073709551615) (ha : a ≤ 18446744073709551615) (hs : s ≤ 18446744073709551615) (H1 : Hid (Arg w w.heap.size A1 n c zp)) (H2 : Hid (Arg w w.heap.size A2 m d zq)) (hb : n + m ≤ 140737488355328)
    (EA : Hid (updV h zp = a)) (EB : Hid (updV a zq = b)) (EC : Hid (updV h (zp ++ zq) = b)) (ES : Hid (sumV zp = s)) (ER : Hid (updV s zq = r)) (ET : Hid (sumV (zp ++ zq) = r)) :
    Calls Try.prog 13 #[.int .u64 (h : Int), .slice A1 n c, .slice A2 m d] w fun e w' => e = .returned (.bool true) ∧ Below w.heap.size w w' := by
  have hb0 : Below w.heap.size w (w.alloc (.cells #[] 5)) := (Below.refl _ w).alloc (Nat.le_refl _) _
  have HO := Lib.hid (OwnB.lit w [] (by simp) (n := 0) rfl (by unfold maxLen; omega))
  have HB0 := Lib.hid hb0
  have G1 := Lib.hid (H1.out.below hb0)
  have G2 := Lib.hid (H2.out.below hb0)
  clear hb0
  go_enter Try.func13, Try.ntmps13
  go_wp2_with (refine wpList_append_bytes rfl (.tmp 8) (.tmp 9) rfl w.heap.size (some ⟨w.heap.size, 0, none⟩) 0 0 [] rfl HO.out w.heap.size A1 n c zp rfl G1.out (by omega) (by simp) ?_)
  intro B1 d1 w1 ho1 hb1
  have HO1 : Hid (OwnB w1 w.heap.size B1 n d1 zp) := ho1
  have hbb1 := HB0.out.trans hb1
  have HB1 := Lib.hid hbb1
  have K2 := Lib.hid (H2.out.below hbb1)
  have hs1 := hbb1.size
  clear ho1 hb1 hbb1 HO HB0 G1 G2
  go_wp2_with (refine wpList_append_bytes rfl (.tmp 10) (.tmp 11) rfl w.heap.size B1 n d1 zp rfl HO1.out w.heap.size A2 m d zq rfl K2.out (by omega) hs1 ?_)
  intro B2 d2 w2 ho2 hb2
  have hbb2 := HB1.out.trans hb2
  have HB2 := Lib.hid hbb2
  have FA := Lib.hid ho2.arg
  have F1 := Lib.hid ((H1.out.below hbb2).more hbb2.size)
  have F2 := Lib.hid ((H2.out.below hbb2).more hbb2.size)
  clear ho2 hb2 hbb2 HO1 HB1 K2 hs1
  go_wp2_with fail
  refine (awake2_any _).mono ?_
  rintro e w3 ⟨rfl, hb3⟩
  have HB3 := Lib.hid (HB2.out.trans (hb3.mono HB2.out.size))
  have QA := Lib.hid (FA.out.below hb3)
  have Q1 := Lib.hid (F1.out.below hb3)
  have Q2 := Lib.hid (F2.out.below hb3)
  clear hb3 HB2 FA F1 F2
  go_wp2_with fail
  refine (hupd_to _ _ h _ _ _ _ a hh Q1.out EA.out).mono ?_
  rintro e w4 ⟨rfl, rfl⟩
  go_wp2_with fail
  refine (hupd_to _ _ a _ _ _ _ b ha Q2.out EB.out).mono ?_
  rintro e w4 ⟨rfl, rfl⟩
  go_wp2_with fail
  refine (hupd_to _ _ h _ _ _ _ b hh QA.out EC.out).mono ?_
  rintro e w4 ⟨rfl, rfl⟩
  go_wp2_with fail
  refine (hsum_to _ _ _ _ _ _ s Q1.out ES.out).mono ?_
  rintro e w4 ⟨rfl, rfl⟩
  go_wp2_with fail
  refine (hupd_to _ _ s _ _ _ _ r hs Q2.out ER.out).mono ?_
  rintro e w4 ⟨rfl, rfl⟩
  go_wp2_with fail
  refine (hsum_to _ _ _ _ _ _ r QA.out ET.out).mono ?_
  rintro e w4 ⟨rfl, rfl⟩
  have N0 : Hid (Calls Try.prog 34 #[.int .u64 (h : Int), .slice none 0 0] w3 fun e w' => e = .returned (.int .u64 (h : Int)) ∧ w3 = w') := hupd_to w3 0 h none 0 0 [] h hh (Arg.nil _ _) rfl
  go_wp2_with fail
  refine N0.out.mono ?_
  rintro e w4 ⟨rfl, rfl⟩
  go_wp2
  go_ret
  exact ⟨rfl, HB3.out⟩

theorem hashPieces_walk (h : Int) (A1 : Option Addr) (n c : Nat) (zp : List Nat) (A2 : Option Addr) (m d : Nat) (zq : List Nat) (w : World) (wh : (Lit.int .u64 h).wf = true)
    (h1 : Arg w w.heap.size A1 n c zp) (s1 : c ≤ 1048576) (h2 : Arg w w.heap.size A2 m d zq) (s2 : d ≤ 1048576) :
    Calls Try.prog 13 #[.int .u64 h, .slice A1 n c, .slice A2 m d] w fun e w' => e = .returned (.bool true) ∧ Below w.heap.size w w' := by
  have hbd := bounds_u64 wh
  obtain ⟨h, rfl⟩ := Int.eq_ofNat_of_zero_le hbd.1
  have hh : h < 18446744073709551616 := by omega
  have ha := updV_lt hh zp
  have hs := sumV_lt zp
  have hl1 := h1.le
  have hl2 := h2.le
  exact pieces_any w h (updV h zp) (updV (updV h zp) zq) (sumV zp) (updV (sumV zp) zq) A1 A2 n c m d zp zq (by omega) (by omega) (by omega) h1 h2 (by omega) rfl rfl (updV_append h zp zq) rfl rfl (updV_append _ zp zq)
end Go.Proofs.Ytjgnldalmenahaa
