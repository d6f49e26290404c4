/- The law WireReplies: its walk. -/
import Derived.Test.YtlkkldegbopnpaaWrT
namespace Go.Proofs.Ytlkkldegbopnpaa
open Go.RowKit
set_option maxRecDepth 100000
set_option linter.unusedVariables false
theorem docReply_good (w : World) (r : RpV) (h : r.ok = true) : Calls Try.prog 47 #[r.val] w fun e w' => ∃ XA xc, e = .returned (.tuple #[.slice XA 34 xc, .int .i64 0]) ∧ Arg w' w'.heap.size XA 34 xc r.bytes ∧ Below w.heap.size w w' := by
  refine (docReply_any w r).mono ?_
  rintro e w' ⟨XA, xn, xc, he, ha, hb⟩
  rw [h] at he ha
  have hl := ha.len
  rw [if_pos rfl, r.len] at hl
  subst hl
  exact ⟨XA, xc, by simpa using he, by simpa using ha, hb⟩
theorem docReply_badE (w : World) (r : RpV) (h : r.ok = false) : Calls Try.prog 47 #[r.val] w fun e w' => ∃ XA xc, e = .returned (.tuple #[.slice XA 0 xc, .int .i64 1]) ∧ Arg w' w'.heap.size XA 0 xc [] ∧ Below w.heap.size w w' := by
  refine (docReply_any w r).mono ?_
  rintro e w' ⟨XA, xn, xc, he, ha, hb⟩
  rw [h] at he ha
  have hl := ha.len
  simp at hl
  subst hl
  exact ⟨XA, xc, by simpa using he, by simpa using ha, hb⟩
theorem reply_badE2 (w : World) (r : RpV) (h : r.ok = false) : Calls Try.prog 46 #[r.val] w fun e w' => ∃ XA xc, e = .returned (.tuple #[.slice XA 0 xc, .int .i64 1]) ∧ Arg w' w'.heap.size XA 0 xc [] ∧ Below w.heap.size w w' := by
  refine (reply_badE w r h).mono ?_
  rintro e w' ⟨XA, xn, xc, he, ha, hb⟩
  have hl := ha.len
  simp at hl
  subst hl
  exact ⟨XA, xc, he, ha, hb⟩
theorem readReply_is (w : World) (A : Option Addr) (n c : Nat) (zs : List Nat) (h : Arg w w.heap.size A n c zs) (x : RpV) (f : Int) (hv : rrV zs = (x, f)) : Calls Try.prog 48 #[.slice A n c] w fun e w' => e = .returned (.tuple #[x.val, .int .i64 f]) ∧ Below w.heap.size w w' := by
  have := readReply_any w A n c zs h
  unfold RrX at this
  rw [hv] at this
  exact this
theorem docReadReply_is (w : World) (A : Option Addr) (n c : Nat) (zs : List Nat) (h : Arg w w.heap.size A n c zs) (x : RpV) (f : Int) (hv : rrV zs = (x, f)) : Calls Try.prog 49 #[.slice A n c] w fun e w' => e = .returned (.tuple #[x.val, .int .i64 f]) ∧ Below w.heap.size w w' := by
  have := docReadReply_any w A n c zs h
  unfold RrX at this
  rw [hv] at this
  exact this
theorem f_zero {zs : List Nat} {X : RpV} {f : Int} (h : rrV zs = (X, f)) (hf : (f == 0) = true) : rrV zs = (X, 0) := by
  have : f = 0 := by simpa using hf
  rw [this] at h; exact h
set_option maxHeartbeats 3200000 in
theorem wr_yy (E : Int) (G : Bool) (a b q d : Int) (A : Option Addr) (n c : Nat) (zs : List Nat) (w : World) (h : Arg w w.heap.size A n c zs) (hsz : c ≤ 140737488351232) (R X : RpV) (hR : R = ⟨E, G, a, b, q, d⟩) (hok : R.ok = true) (f : Int) (hv : rrV zs = (X, f)) (hf : (f == 0) = true) :
    Calls Try.prog 13 #[.agg #[.int .i64 E, .bool G, .int .i64 a, .int .i64 b, .int .i64 q, .int .i64 d], .slice A n c] w fun e w' => e = .returned (.bool true) ∧ Below w.heap.size w w' := by
  have hle := h.le
  have HSZ : Hid (n ≤ 140737488355325) := Lib.hid (by omega)
  have B0 := Lib.hid ((Below.refl w.heap.size w).alloc (Nat.le_refl _) (.cells #[.int .i64 E, .bool G, .int .i64 a, .int .i64 b, .int .i64 q, .int .i64 d] 82))
  have K0 : Hid (BlkL (w.alloc (.cells #[.int .i64 E, .bool G, .int .i64 a, .int .i64 b, .int .i64 q, .int .i64 d] 82)) w.heap.size [.int .i64 E, .bool G, .int .i64 a, .int .i64 b, .int .i64 q, .int .i64 d]) := Lib.hid (BlkL.new w _ _)
  have HA := Lib.hid h
  have HOK := Lib.hid hok
  have HV := Lib.hid hv
  have HR := Lib.hid hR
  have HF := Lib.hid hf
  clear h hsz hle hok hv
  have hF := HF.out
  go_enter Try.func13, Try.ntmps13
  go_wp2_with (with_reducible refine (awake21_any _).mono ?_)
  rintro e w1 ⟨rfl, hb1⟩
  have hb1' := B0.out.trans (hb1.mono (by simp))
  have B1 := Lib.hid hb1'
  have k1 := K0.out.below hb1
  have K1 := Lib.hid k1
  have r0 := k1.cell 0 _ rfl
  have r1 := k1.cell 1 _ rfl
  have r2 := k1.cell 2 _ rfl
  have r3 := k1.cell 3 _ rfl
  have r4 := k1.cell 4 _ rfl
  have r5 := k1.cell 5 _ rfl
  have rl := k1.lt
  clear hb1 hb1' k1 K0 B0
  have HC1 : Hid (Calls Try.prog 46 #[.agg #[.int .i64 E, .bool G, .int .i64 a, .int .i64 b, .int .i64 q, .int .i64 d]] w1 fun e w' => ∃ XA xc, e = .returned (.tuple #[.slice XA 34 xc, .int .i64 0]) ∧ Arg w' w'.heap.size XA 34 xc R.bytes ∧ Below w1.heap.size w1 w') := by
    have := reply_good w1 R HOK.out
    rw [HR.out] at this ⊢
    exact Lib.hid this
  go_wp2_with fail
  with_reducible refine (HC1.out).mono ?_
  rintro e w2 ⟨XA, xc, rfl, ha2, hb2⟩
  have HX2 := Lib.hid ha2
  have B2 := Lib.hid (B1.out.trans (hb2.mono B1.out.size))
  have k2 := K1.out.below hb2
  have K2 := Lib.hid k2
  clear r0 r1 r2 r3 r4 r5 rl
  have r0 := k2.cell 0 _ rfl
  have r1 := k2.cell 1 _ rfl
  have r2 := k2.cell 2 _ rfl
  have r3 := k2.cell 3 _ rfl
  have r4 := k2.cell 4 _ rfl
  have r5 := k2.cell 5 _ rfl
  have rl := k2.lt
  clear ha2 hb2 k2 K1 B1 HC1
  have HC2 : Hid (Calls Try.prog 47 #[.agg #[.int .i64 E, .bool G, .int .i64 a, .int .i64 b, .int .i64 q, .int .i64 d]] w2 fun e w' => ∃ XA xc, e = .returned (.tuple #[.slice XA 34 xc, .int .i64 0]) ∧ Arg w' w'.heap.size XA 34 xc R.bytes ∧ Below w2.heap.size w2 w') := by
    have := docReply_good w2 R HOK.out
    rw [HR.out] at this ⊢
    exact Lib.hid this
  go_wp2_with fail
  with_reducible refine (HC2.out).mono ?_
  rintro e w3 ⟨XB, xd, rfl, ha3, hb3⟩
  have HX3 := Lib.hid ((HX2.out.below hb3).more hb3.size)
  have HY3 := Lib.hid ha3
  have B3 := Lib.hid (B2.out.trans (hb3.mono B2.out.size))
  have K3 := Lib.hid (K2.out.below hb3)
  have A3 := Lib.hid ((HA.out.below (B2.out.trans (hb3.mono B2.out.size))).more (B2.out.trans (hb3.mono B2.out.size)).size)
  clear r0 r1 r2 r3 r4 r5 rl ha3 hb3 K2 B2 HX2 HC2
  have HC3 := Lib.hid (spare_any w3 A n c zs A3.out HSZ.out)
  go_wp2_with fail
  with_reducible refine (HC3.out).mono ?_
  rintro e w4 ⟨F, fd, rfl, ho4, hb4⟩
  have HX4 := Lib.hid ((HX3.out.below hb4).more hb4.size)
  have HY4 := Lib.hid ((HY3.out.below hb4).more hb4.size)
  have HF4 := Lib.hid ho4.arg
  have B4 := Lib.hid (B3.out.trans (hb4.mono B3.out.size))
  have K4 := Lib.hid (K3.out.below hb4)
  have A4 := Lib.hid ((A3.out.below hb4).more hb4.size)
  have hx4 := ho4.arg.take (k := n) (by omega)
  rw [List.take_left' A3.out.len] at hx4
  have HC4 := Lib.hid (readReply_is w4 F n fd zs hx4 X f HV.out)
  clear ho4 hb4 hx4 HX3 HY3 B3 K3 A3 HC3
  go_wp2_with fail
  with_reducible refine (HC4.out).mono ?_
  rintro e w5 ⟨rfl, hb5⟩
  obtain ⟨XE, XG, Xa, Xb, Xc, Xd⟩ := X
  have HX5 := Lib.hid ((HX4.out.below hb5).more hb5.size)
  have HY5 := Lib.hid ((HY4.out.below hb5).more hb5.size)
  have HF5 := Lib.hid ((HF4.out.below hb5).more hb5.size)
  have B5 := Lib.hid (B4.out.trans (hb5.mono B4.out.size))
  have K5 := Lib.hid (K4.out.below hb5)
  have A5 := Lib.hid ((A4.out.below hb5).more hb5.size)
  clear hb5 HX4 HY4 HF4 B4 K4 A4 HC4
  dsimp only [RpV.val]
  -- c is laid into a block
  have bl : Below w5.heap.size w5 (w5.alloc (.cells #[.int .i64 XE, .bool XG, .int .i64 Xa, .int .i64 Xb, .int .i64 Xc, .int .i64 Xd] 82)) := (Below.refl _ _).alloc (Nat.le_refl _) _
  have C6 : Hid (BlkL (w5.alloc (.cells #[.int .i64 XE, .bool XG, .int .i64 Xa, .int .i64 Xb, .int .i64 Xc, .int .i64 Xd] 82)) w5.heap.size [.int .i64 XE, .bool XG, .int .i64 Xa, .int .i64 Xb, .int .i64 Xc, .int .i64 Xd]) := Lib.hid (BlkL.new w5 _ _)
  have HX6 := Lib.hid ((HX5.out.below bl).more bl.size)
  have HY6 := Lib.hid ((HY5.out.below bl).more bl.size)
  have HF6 := Lib.hid ((HF5.out.below bl).more bl.size)
  have B6 := Lib.hid (B5.out.trans (bl.mono B5.out.size))
  have K6 := Lib.hid (K5.out.below bl)
  have A6 := Lib.hid ((A5.out.below bl).more bl.size)
  have HC5 : Hid (Calls Try.prog 49 #[.slice A n c] (w5.alloc (.cells #[.int .i64 XE, .bool XG, .int .i64 Xa, .int .i64 Xb, .int .i64 Xc, .int .i64 Xd] 82)) fun e w' => e = .returned (.tuple #[.agg #[.int .i64 XE, .bool XG, .int .i64 Xa, .int .i64 Xb, .int .i64 Xc, .int .i64 Xd], .int .i64 f]) ∧ Below (w5.alloc (.cells #[.int .i64 XE, .bool XG, .int .i64 Xa, .int .i64 Xb, .int .i64 Xc, .int .i64 Xd] 82)).heap.size (w5.alloc (.cells #[.int .i64 XE, .bool XG, .int .i64 Xa, .int .i64 Xb, .int .i64 Xc, .int .i64 Xd] 82)) w') := Lib.hid (docReadReply_is _ A n c zs A6.out _ f HV.out)
  clear bl HX5 HY5 HF5 B5 K5 A5
  go_wp2_with fail
  with_reducible refine (HC5.out).mono ?_
  rintro e w7 ⟨rfl, hb7⟩
  have bl : Below w7.heap.size w7 (w7.alloc (.cells #[.int .i64 XE, .bool XG, .int .i64 Xa, .int .i64 Xb, .int .i64 Xc, .int .i64 Xd] 82)) := (Below.refl _ _).alloc (Nat.le_refl _) _
  have b78 := hb7.trans (bl.mono hb7.size)
  have HX8 := Lib.hid ((HX6.out.below b78).more b78.size)
  have HY8 := Lib.hid ((HY6.out.below b78).more b78.size)
  have HF8 := Lib.hid ((HF6.out.below b78).more b78.size)
  have B8 := Lib.hid (B6.out.trans (b78.mono B6.out.size))
  have K8 := Lib.hid (K6.out.below b78)
  have C8 := Lib.hid (C6.out.below b78)
  have A8 := Lib.hid ((A6.out.below b78).more b78.size)
  have D8 : Hid (BlkL (w7.alloc (.cells #[.int .i64 XE, .bool XG, .int .i64 Xa, .int .i64 Xb, .int .i64 Xc, .int .i64 Xd] 82)) w7.heap.size [.int .i64 XE, .bool XG, .int .i64 Xa, .int .i64 Xb, .int .i64 Xc, .int .i64 Xd]) := Lib.hid (BlkL.new w7 _ _)
  have HS := Lib.hid (same_any _ _ _ XA XB 34 xc 34 xd _ _ true (by simp) HX8.out HY8.out)
  clear bl b78 hb7 HX6 HY6 HF6 B6 K6 C6 A6 HC5
  go_wp2_with fail
  with_reducible refine (HS.out).mono ?_
  rintro e w9 ⟨rfl, t9, hw9⟩
  have hb9 : Below (w7.alloc (.cells #[.int .i64 XE, .bool XG, .int .i64 Xa, .int .i64 Xb, .int .i64 Xc, .int .i64 Xd] 82)).heap.size (w7.alloc (.cells #[.int .i64 XE, .bool XG, .int .i64 Xa, .int .i64 Xb, .int .i64 Xc, .int .i64 Xd] 82)) w9 := by rw [hw9]; exact below_drewN (Below.refl _ _) t9
  have HX9 := Lib.hid ((HX8.out.below hb9).more hb9.size)
  have HF9 := Lib.hid ((HF8.out.below hb9).more hb9.size)
  have B9 := Lib.hid (B8.out.trans (hb9.mono B8.out.size))
  have k9 := K8.out.below hb9
  have K9 := Lib.hid k9
  have c9 := C8.out.below hb9
  have C9 := Lib.hid c9
  have d9 := D8.out.below hb9
  have A9 := Lib.hid ((A8.out.below hb9).more hb9.size)
  have y0 := c9.cell 0 _ rfl
  have y1 := c9.cell 1 _ rfl
  have y2 := c9.cell 2 _ rfl
  have y3 := c9.cell 3 _ rfl
  have y4 := c9.cell 4 _ rfl
  have y5 := c9.cell 5 _ rfl
  have yl := c9.lt
  have z0 := d9.cell 0 _ rfl
  have z1 := d9.cell 1 _ rfl
  have z2 := d9.cell 2 _ rfl
  have z3 := d9.cell 3 _ rfl
  have z4 := d9.cell 4 _ rfl
  have z5 := d9.cell 5 _ rfl
  have zl := d9.lt
  have HKP := Lib.hid (kept_any w9 _ _ F A n c fd zs HF9.out A9.out)
  have hneq : ∀ w, (binOp .neq 82 (.agg #[.int .i64 XE, .bool XG, .int .i64 Xa, .int .i64 Xb, .int .i64 Xc, .int .i64 Xd]) (.agg #[.int .i64 XE, .bool XG, .int .i64 Xa, .int .i64 Xb, .int .i64 Xc, .int .i64 Xd])).run Try.prog w = .ok (.bool false) w := fun w => neqRepX XE Xa Xb Xc Xd XG w
  have hff : (f != f) = false := by simp
  clear hw9 hb9 k9 c9 d9 HX8 HY8 HF8 B8 K8 C8 D8 A8 HS
  go_wp2_with fail
  with_reducible refine (HKP.out).mono ?_
  rintro e v0 ⟨rfl, tv, hwv⟩
  have hbv : Below w9.heap.size w9 v0 := by rw [hwv]; exact below_drewN (Below.refl _ _) tv
  have HXv := Lib.hid ((HX9.out.below hbv).more hbv.size)
  have Bv := Lib.hid (B9.out.trans (hbv.mono B9.out.size))
  have kv := K9.out.below hbv
  have Kv := Lib.hid kv
  have cv := C9.out.below hbv
  have Cv := Lib.hid cv
  have Av := Lib.hid ((A9.out.below hbv).more hbv.size)
  clear y0 y1 y2 y3 y4 y5 yl z0 z1 z2 z3 z4 z5 zl hneq hff
  have r0 := kv.cell 0 _ rfl
  have r1 := kv.cell 1 _ rfl
  have r2 := kv.cell 2 _ rfl
  have r3 := kv.cell 3 _ rfl
  have r4 := kv.cell 4 _ rfl
  have r5 := kv.cell 5 _ rfl
  have rl := kv.lt
  have y0 := cv.cell 0 _ rfl
  have y1 := cv.cell 1 _ rfl
  have y2 := cv.cell 2 _ rfl
  have y3 := cv.cell 3 _ rfl
  have y4 := cv.cell 4 _ rfl
  have y5 := cv.cell 5 _ rfl
  have yl := cv.lt
  clear hwv hbv kv cv HX9 HF9 B9 K9 C9 A9 HKP
  have HC6 : Hid (Calls Try.prog 48 #[.slice XA 34 xc] v0 fun e w' => e = .returned (.tuple #[.agg #[.int .i64 E, .bool G, .int .i64 a, .int .i64 b, .int .i64 q, .int .i64 d], .int .i64 0]) ∧ Below v0.heap.size v0 w') := by
    have := readReply_is v0 XA 34 xc _ HXv.out R 0 (rrV_self HOK.out)
    rw [HR.out] at this
    exact Lib.hid this
  clear r0 r1 r2 r3 r4 r5 rl y0 y1 y2 y3 y4 y5 yl
  go_wp2_with fail
  with_reducible refine (HC6.out).mono ?_
  rintro e v1 ⟨rfl, hb1⟩
  have bl : Below v1.heap.size v1 (v1.alloc (.cells #[.int .i64 E, .bool G, .int .i64 a, .int .i64 b, .int .i64 q, .int .i64 d] 82)) := (Below.refl _ _).alloc (Nat.le_refl _) _
  have b12 := hb1.trans (bl.mono hb1.size)
  have Bu := Lib.hid (Bv.out.trans (b12.mono Bv.out.size))
  have ku := Kv.out.below b12
  have cu := Cv.out.below b12
  have Cu := Lib.hid cu
  have Au := Lib.hid ((Av.out.below b12).more b12.size)
  have du : BlkL (v1.alloc (.cells #[.int .i64 E, .bool G, .int .i64 a, .int .i64 b, .int .i64 q, .int .i64 d] 82)) v1.heap.size [.int .i64 E, .bool G, .int .i64 a, .int .i64 b, .int .i64 q, .int .i64 d] := BlkL.new v1 _ _
  have r0 := ku.cell 0 _ rfl
  have r1 := ku.cell 1 _ rfl
  have r2 := ku.cell 2 _ rfl
  have r3 := ku.cell 3 _ rfl
  have r4 := ku.cell 4 _ rfl
  have r5 := ku.cell 5 _ rfl
  have rl := ku.lt
  have y0 := cu.cell 0 _ rfl
  have y1 := cu.cell 1 _ rfl
  have y2 := cu.cell 2 _ rfl
  have y3 := cu.cell 3 _ rfl
  have y4 := cu.cell 4 _ rfl
  have y5 := cu.cell 5 _ rfl
  have yl := cu.lt
  have z0 := du.cell 0 _ rfl
  have z1 := du.cell 1 _ rfl
  have z2 := du.cell 2 _ rfl
  have z3 := du.cell 3 _ rfl
  have z4 := du.cell 4 _ rfl
  have z5 := du.cell 5 _ rfl
  have zl := du.lt
  have hneq : ∀ w, (binOp .neq 82 (.agg #[.int .i64 E, .bool G, .int .i64 a, .int .i64 b, .int .i64 q, .int .i64 d]) (.agg #[.int .i64 E, .bool G, .int .i64 a, .int .i64 b, .int .i64 q, .int .i64 d])).run Try.prog w = .ok (.bool false) w := fun w => neqRepX E a b q d G w
  clear bl b12 hb1 ku cu du Bv Kv Cv Av HXv HC6
  have HFX := rrV_fix (f_zero HV.out hF)
  have HC7 : Hid (Calls Try.prog 46 #[.agg #[.int .i64 XE, .bool XG, .int .i64 Xa, .int .i64 Xb, .int .i64 Xc, .int .i64 Xd]] (v1.alloc (.cells #[.int .i64 E, .bool G, .int .i64 a, .int .i64 b, .int .i64 q, .int .i64 d] 82)) fun e w' => ∃ XA xc, e = .returned (.tuple #[.slice XA 34 xc, .int .i64 0]) ∧ Arg w' w'.heap.size XA 34 xc zs ∧ Below (v1.alloc (.cells #[.int .i64 E, .bool G, .int .i64 a, .int .i64 b, .int .i64 q, .int .i64 d] 82)).heap.size (v1.alloc (.cells #[.int .i64 E, .bool G, .int .i64 a, .int .i64 b, .int .i64 q, .int .i64 d] 82)) w') := by
    have := reply_good (v1.alloc (.cells #[.int .i64 E, .bool G, .int .i64 a, .int .i64 b, .int .i64 q, .int .i64 d] 82)) _ HFX.1
    rw [HFX.2] at this
    exact Lib.hid this
  clear HFX
  go_wp2_with fail
  with_reducible refine (HC7.out).mono ?_
  rintro e v3 ⟨YA, yc, rfl, ha3, hb3⟩
  have B3 := Lib.hid (Bu.out.trans (hb3.mono Bu.out.size))
  have A3 := Lib.hid ((Au.out.below hb3).more hb3.size)
  have HS := Lib.hid (same_any v3 _ _ YA A 34 yc n c zs zs true (by simp) ha3 A3.out)
  clear ha3 hb3 HC7
  go_wp2_with fail
  with_reducible refine (HS.out).mono ?_
  rintro e v4 ⟨rfl, t4, hw4⟩
  have B4 : Hid (Below w.heap.size w v4) := by rw [hw4]; exact Lib.hid (below_drewN B3.out t4)
  clear hw4
  go_wp2
  go_ret
  exact ⟨rfl, B4.out⟩
set_option maxHeartbeats 3200000 in
theorem wr_yn (E : Int) (G : Bool) (a b q d : Int) (A : Option Addr) (n c : Nat) (zs : List Nat) (w : World) (h : Arg w w.heap.size A n c zs) (hsz : c ≤ 140737488351232) (R X : RpV) (hR : R = ⟨E, G, a, b, q, d⟩) (hok : R.ok = true) (f : Int) (hv : rrV zs = (X, f)) (hf : (f == 0) = false) :
    Calls Try.prog 13 #[.agg #[.int .i64 E, .bool G, .int .i64 a, .int .i64 b, .int .i64 q, .int .i64 d], .slice A n c] w fun e w' => e = .returned (.bool true) ∧ Below w.heap.size w w' := by
  have hle := h.le
  have HSZ : Hid (n ≤ 140737488355325) := Lib.hid (by omega)
  have B0 := Lib.hid ((Below.refl w.heap.size w).alloc (Nat.le_refl _) (.cells #[.int .i64 E, .bool G, .int .i64 a, .int .i64 b, .int .i64 q, .int .i64 d] 82))
  have K0 : Hid (BlkL (w.alloc (.cells #[.int .i64 E, .bool G, .int .i64 a, .int .i64 b, .int .i64 q, .int .i64 d] 82)) w.heap.size [.int .i64 E, .bool G, .int .i64 a, .int .i64 b, .int .i64 q, .int .i64 d]) := Lib.hid (BlkL.new w _ _)
  have HA := Lib.hid h
  have HOK := Lib.hid hok
  have HV := Lib.hid hv
  have HR := Lib.hid hR
  have HF := Lib.hid hf
  clear h hsz hle hok hv
  have hF := HF.out
  go_enter Try.func13, Try.ntmps13
  go_wp2_with (with_reducible refine (awake21_any _).mono ?_)
  rintro e w1 ⟨rfl, hb1⟩
  have hb1' := B0.out.trans (hb1.mono (by simp))
  have B1 := Lib.hid hb1'
  have k1 := K0.out.below hb1
  have K1 := Lib.hid k1
  have r0 := k1.cell 0 _ rfl
  have r1 := k1.cell 1 _ rfl
  have r2 := k1.cell 2 _ rfl
  have r3 := k1.cell 3 _ rfl
  have r4 := k1.cell 4 _ rfl
  have r5 := k1.cell 5 _ rfl
  have rl := k1.lt
  clear hb1 hb1' k1 K0 B0
  have HC1 : Hid (Calls Try.prog 46 #[.agg #[.int .i64 E, .bool G, .int .i64 a, .int .i64 b, .int .i64 q, .int .i64 d]] w1 fun e w' => ∃ XA xc, e = .returned (.tuple #[.slice XA 34 xc, .int .i64 0]) ∧ Arg w' w'.heap.size XA 34 xc R.bytes ∧ Below w1.heap.size w1 w') := by
    have := reply_good w1 R HOK.out
    rw [HR.out] at this ⊢
    exact Lib.hid this
  go_wp2_with fail
  with_reducible refine (HC1.out).mono ?_
  rintro e w2 ⟨XA, xc, rfl, ha2, hb2⟩
  have HX2 := Lib.hid ha2
  have B2 := Lib.hid (B1.out.trans (hb2.mono B1.out.size))
  have k2 := K1.out.below hb2
  have K2 := Lib.hid k2
  clear r0 r1 r2 r3 r4 r5 rl
  have r0 := k2.cell 0 _ rfl
  have r1 := k2.cell 1 _ rfl
  have r2 := k2.cell 2 _ rfl
  have r3 := k2.cell 3 _ rfl
  have r4 := k2.cell 4 _ rfl
  have r5 := k2.cell 5 _ rfl
  have rl := k2.lt
  clear ha2 hb2 k2 K1 B1 HC1
  have HC2 : Hid (Calls Try.prog 47 #[.agg #[.int .i64 E, .bool G, .int .i64 a, .int .i64 b, .int .i64 q, .int .i64 d]] w2 fun e w' => ∃ XA xc, e = .returned (.tuple #[.slice XA 34 xc, .int .i64 0]) ∧ Arg w' w'.heap.size XA 34 xc R.bytes ∧ Below w2.heap.size w2 w') := by
    have := docReply_good w2 R HOK.out
    rw [HR.out] at this ⊢
    exact Lib.hid this
  go_wp2_with fail
  with_reducible refine (HC2.out).mono ?_
  rintro e w3 ⟨XB, xd, rfl, ha3, hb3⟩
  have HX3 := Lib.hid ((HX2.out.below hb3).more hb3.size)
  have HY3 := Lib.hid ha3
  have B3 := Lib.hid (B2.out.trans (hb3.mono B2.out.size))
  have K3 := Lib.hid (K2.out.below hb3)
  have A3 := Lib.hid ((HA.out.below (B2.out.trans (hb3.mono B2.out.size))).more (B2.out.trans (hb3.mono B2.out.size)).size)
  clear r0 r1 r2 r3 r4 r5 rl ha3 hb3 K2 B2 HX2 HC2
  have HC3 := Lib.hid (spare_any w3 A n c zs A3.out HSZ.out)
  go_wp2_with fail
  with_reducible refine (HC3.out).mono ?_
  rintro e w4 ⟨F, fd, rfl, ho4, hb4⟩
  have HX4 := Lib.hid ((HX3.out.below hb4).more hb4.size)
  have HY4 := Lib.hid ((HY3.out.below hb4).more hb4.size)
  have HF4 := Lib.hid ho4.arg
  have B4 := Lib.hid (B3.out.trans (hb4.mono B3.out.size))
  have K4 := Lib.hid (K3.out.below hb4)
  have A4 := Lib.hid ((A3.out.below hb4).more hb4.size)
  have hx4 := ho4.arg.take (k := n) (by omega)
  rw [List.take_left' A3.out.len] at hx4
  have HC4 := Lib.hid (readReply_is w4 F n fd zs hx4 X f HV.out)
  clear ho4 hb4 hx4 HX3 HY3 B3 K3 A3 HC3
  go_wp2_with fail
  with_reducible refine (HC4.out).mono ?_
  rintro e w5 ⟨rfl, hb5⟩
  obtain ⟨XE, XG, Xa, Xb, Xc, Xd⟩ := X
  have HX5 := Lib.hid ((HX4.out.below hb5).more hb5.size)
  have HY5 := Lib.hid ((HY4.out.below hb5).more hb5.size)
  have HF5 := Lib.hid ((HF4.out.below hb5).more hb5.size)
  have B5 := Lib.hid (B4.out.trans (hb5.mono B4.out.size))
  have K5 := Lib.hid (K4.out.below hb5)
  have A5 := Lib.hid ((A4.out.below hb5).more hb5.size)
  clear hb5 HX4 HY4 HF4 B4 K4 A4 HC4
  dsimp only [RpV.val]
  -- c is laid into a block
  have bl : Below w5.heap.size w5 (w5.alloc (.cells #[.int .i64 XE, .bool XG, .int .i64 Xa, .int .i64 Xb, .int .i64 Xc, .int .i64 Xd] 82)) := (Below.refl _ _).alloc (Nat.le_refl _) _
  have C6 : Hid (BlkL (w5.alloc (.cells #[.int .i64 XE, .bool XG, .int .i64 Xa, .int .i64 Xb, .int .i64 Xc, .int .i64 Xd] 82)) w5.heap.size [.int .i64 XE, .bool XG, .int .i64 Xa, .int .i64 Xb, .int .i64 Xc, .int .i64 Xd]) := Lib.hid (BlkL.new w5 _ _)
  have HX6 := Lib.hid ((HX5.out.below bl).more bl.size)
  have HY6 := Lib.hid ((HY5.out.below bl).more bl.size)
  have HF6 := Lib.hid ((HF5.out.below bl).more bl.size)
  have B6 := Lib.hid (B5.out.trans (bl.mono B5.out.size))
  have K6 := Lib.hid (K5.out.below bl)
  have A6 := Lib.hid ((A5.out.below bl).more bl.size)
  have HC5 : Hid (Calls Try.prog 49 #[.slice A n c] (w5.alloc (.cells #[.int .i64 XE, .bool XG, .int .i64 Xa, .int .i64 Xb, .int .i64 Xc, .int .i64 Xd] 82)) fun e w' => e = .returned (.tuple #[.agg #[.int .i64 XE, .bool XG, .int .i64 Xa, .int .i64 Xb, .int .i64 Xc, .int .i64 Xd], .int .i64 f]) ∧ Below (w5.alloc (.cells #[.int .i64 XE, .bool XG, .int .i64 Xa, .int .i64 Xb, .int .i64 Xc, .int .i64 Xd] 82)).heap.size (w5.alloc (.cells #[.int .i64 XE, .bool XG, .int .i64 Xa, .int .i64 Xb, .int .i64 Xc, .int .i64 Xd] 82)) w') := Lib.hid (docReadReply_is _ A n c zs A6.out _ f HV.out)
  clear bl HX5 HY5 HF5 B5 K5 A5
  go_wp2_with fail
  with_reducible refine (HC5.out).mono ?_
  rintro e w7 ⟨rfl, hb7⟩
  have bl : Below w7.heap.size w7 (w7.alloc (.cells #[.int .i64 XE, .bool XG, .int .i64 Xa, .int .i64 Xb, .int .i64 Xc, .int .i64 Xd] 82)) := (Below.refl _ _).alloc (Nat.le_refl _) _
  have b78 := hb7.trans (bl.mono hb7.size)
  have HX8 := Lib.hid ((HX6.out.below b78).more b78.size)
  have HY8 := Lib.hid ((HY6.out.below b78).more b78.size)
  have HF8 := Lib.hid ((HF6.out.below b78).more b78.size)
  have B8 := Lib.hid (B6.out.trans (b78.mono B6.out.size))
  have K8 := Lib.hid (K6.out.below b78)
  have C8 := Lib.hid (C6.out.below b78)
  have A8 := Lib.hid ((A6.out.below b78).more b78.size)
  have D8 : Hid (BlkL (w7.alloc (.cells #[.int .i64 XE, .bool XG, .int .i64 Xa, .int .i64 Xb, .int .i64 Xc, .int .i64 Xd] 82)) w7.heap.size [.int .i64 XE, .bool XG, .int .i64 Xa, .int .i64 Xb, .int .i64 Xc, .int .i64 Xd]) := Lib.hid (BlkL.new w7 _ _)
  have HS := Lib.hid (same_any _ _ _ XA XB 34 xc 34 xd _ _ true (by simp) HX8.out HY8.out)
  clear bl b78 hb7 HX6 HY6 HF6 B6 K6 C6 A6 HC5
  go_wp2_with fail
  with_reducible refine (HS.out).mono ?_
  rintro e w9 ⟨rfl, t9, hw9⟩
  have hb9 : Below (w7.alloc (.cells #[.int .i64 XE, .bool XG, .int .i64 Xa, .int .i64 Xb, .int .i64 Xc, .int .i64 Xd] 82)).heap.size (w7.alloc (.cells #[.int .i64 XE, .bool XG, .int .i64 Xa, .int .i64 Xb, .int .i64 Xc, .int .i64 Xd] 82)) w9 := by rw [hw9]; exact below_drewN (Below.refl _ _) t9
  have HX9 := Lib.hid ((HX8.out.below hb9).more hb9.size)
  have HF9 := Lib.hid ((HF8.out.below hb9).more hb9.size)
  have B9 := Lib.hid (B8.out.trans (hb9.mono B8.out.size))
  have k9 := K8.out.below hb9
  have K9 := Lib.hid k9
  have c9 := C8.out.below hb9
  have C9 := Lib.hid c9
  have d9 := D8.out.below hb9
  have A9 := Lib.hid ((A8.out.below hb9).more hb9.size)
  have y0 := c9.cell 0 _ rfl
  have y1 := c9.cell 1 _ rfl
  have y2 := c9.cell 2 _ rfl
  have y3 := c9.cell 3 _ rfl
  have y4 := c9.cell 4 _ rfl
  have y5 := c9.cell 5 _ rfl
  have yl := c9.lt
  have z0 := d9.cell 0 _ rfl
  have z1 := d9.cell 1 _ rfl
  have z2 := d9.cell 2 _ rfl
  have z3 := d9.cell 3 _ rfl
  have z4 := d9.cell 4 _ rfl
  have z5 := d9.cell 5 _ rfl
  have zl := d9.lt
  have HKP := Lib.hid (kept_any w9 _ _ F A n c fd zs HF9.out A9.out)
  have hneq : ∀ w, (binOp .neq 82 (.agg #[.int .i64 XE, .bool XG, .int .i64 Xa, .int .i64 Xb, .int .i64 Xc, .int .i64 Xd]) (.agg #[.int .i64 XE, .bool XG, .int .i64 Xa, .int .i64 Xb, .int .i64 Xc, .int .i64 Xd])).run Try.prog w = .ok (.bool false) w := fun w => neqRepX XE Xa Xb Xc Xd XG w
  have hff : (f != f) = false := by simp
  clear hw9 hb9 k9 c9 d9 HX8 HY8 HF8 B8 K8 C8 D8 A8 HS
  go_wp2_with fail
  with_reducible refine (HKP.out).mono ?_
  rintro e v0 ⟨rfl, tv, hwv⟩
  have hbv : Below w9.heap.size w9 v0 := by rw [hwv]; exact below_drewN (Below.refl _ _) tv
  have HXv := Lib.hid ((HX9.out.below hbv).more hbv.size)
  have Bv := Lib.hid (B9.out.trans (hbv.mono B9.out.size))
  have kv := K9.out.below hbv
  have Kv := Lib.hid kv
  have cv := C9.out.below hbv
  have Cv := Lib.hid cv
  have Av := Lib.hid ((A9.out.below hbv).more hbv.size)
  clear y0 y1 y2 y3 y4 y5 yl z0 z1 z2 z3 z4 z5 zl hneq hff
  have r0 := kv.cell 0 _ rfl
  have r1 := kv.cell 1 _ rfl
  have r2 := kv.cell 2 _ rfl
  have r3 := kv.cell 3 _ rfl
  have r4 := kv.cell 4 _ rfl
  have r5 := kv.cell 5 _ rfl
  have rl := kv.lt
  have y0 := cv.cell 0 _ rfl
  have y1 := cv.cell 1 _ rfl
  have y2 := cv.cell 2 _ rfl
  have y3 := cv.cell 3 _ rfl
  have y4 := cv.cell 4 _ rfl
  have y5 := cv.cell 5 _ rfl
  have yl := cv.lt
  clear hwv hbv kv cv HX9 HF9 B9 K9 C9 A9 HKP
  have HC6 : Hid (Calls Try.prog 48 #[.slice XA 34 xc] v0 fun e w' => e = .returned (.tuple #[.agg #[.int .i64 E, .bool G, .int .i64 a, .int .i64 b, .int .i64 q, .int .i64 d], .int .i64 0]) ∧ Below v0.heap.size v0 w') := by
    have := readReply_is v0 XA 34 xc _ HXv.out R 0 (rrV_self HOK.out)
    rw [HR.out] at this
    exact Lib.hid this
  clear r0 r1 r2 r3 r4 r5 rl y0 y1 y2 y3 y4 y5 yl
  go_wp2_with fail
  with_reducible refine (HC6.out).mono ?_
  rintro e v1 ⟨rfl, hb1⟩
  have bl : Below v1.heap.size v1 (v1.alloc (.cells #[.int .i64 E, .bool G, .int .i64 a, .int .i64 b, .int .i64 q, .int .i64 d] 82)) := (Below.refl _ _).alloc (Nat.le_refl _) _
  have b12 := hb1.trans (bl.mono hb1.size)
  have Bu := Lib.hid (Bv.out.trans (b12.mono Bv.out.size))
  have ku := Kv.out.below b12
  have cu := Cv.out.below b12
  have Cu := Lib.hid cu
  have Au := Lib.hid ((Av.out.below b12).more b12.size)
  have du : BlkL (v1.alloc (.cells #[.int .i64 E, .bool G, .int .i64 a, .int .i64 b, .int .i64 q, .int .i64 d] 82)) v1.heap.size [.int .i64 E, .bool G, .int .i64 a, .int .i64 b, .int .i64 q, .int .i64 d] := BlkL.new v1 _ _
  have r0 := ku.cell 0 _ rfl
  have r1 := ku.cell 1 _ rfl
  have r2 := ku.cell 2 _ rfl
  have r3 := ku.cell 3 _ rfl
  have r4 := ku.cell 4 _ rfl
  have r5 := ku.cell 5 _ rfl
  have rl := ku.lt
  have y0 := cu.cell 0 _ rfl
  have y1 := cu.cell 1 _ rfl
  have y2 := cu.cell 2 _ rfl
  have y3 := cu.cell 3 _ rfl
  have y4 := cu.cell 4 _ rfl
  have y5 := cu.cell 5 _ rfl
  have yl := cu.lt
  have z0 := du.cell 0 _ rfl
  have z1 := du.cell 1 _ rfl
  have z2 := du.cell 2 _ rfl
  have z3 := du.cell 3 _ rfl
  have z4 := du.cell 4 _ rfl
  have z5 := du.cell 5 _ rfl
  have zl := du.lt
  have hneq : ∀ w, (binOp .neq 82 (.agg #[.int .i64 E, .bool G, .int .i64 a, .int .i64 b, .int .i64 q, .int .i64 d]) (.agg #[.int .i64 E, .bool G, .int .i64 a, .int .i64 b, .int .i64 q, .int .i64 d])).run Try.prog w = .ok (.bool false) w := fun w => neqRepX E a b q d G w
  clear bl b12 hb1 ku cu du Bv Kv Cv Av HXv HC6
  go_wp2
  go_ret
  exact ⟨rfl, Bu.out⟩
set_option maxHeartbeats 3200000 in
theorem wr_ny (E : Int) (G : Bool) (a b q d : Int) (A : Option Addr) (n c : Nat) (zs : List Nat) (w : World) (h : Arg w w.heap.size A n c zs) (hsz : c ≤ 140737488351232) (R X : RpV) (hR : R = ⟨E, G, a, b, q, d⟩) (hok : R.ok = false) (f : Int) (hv : rrV zs = (X, f)) (hf : (f == 0) = true) :
    Calls Try.prog 13 #[.agg #[.int .i64 E, .bool G, .int .i64 a, .int .i64 b, .int .i64 q, .int .i64 d], .slice A n c] w fun e w' => e = .returned (.bool true) ∧ Below w.heap.size w w' := by
  have hle := h.le
  have HSZ : Hid (n ≤ 140737488355325) := Lib.hid (by omega)
  have B0 := Lib.hid ((Below.refl w.heap.size w).alloc (Nat.le_refl _) (.cells #[.int .i64 E, .bool G, .int .i64 a, .int .i64 b, .int .i64 q, .int .i64 d] 82))
  have K0 : Hid (BlkL (w.alloc (.cells #[.int .i64 E, .bool G, .int .i64 a, .int .i64 b, .int .i64 q, .int .i64 d] 82)) w.heap.size [.int .i64 E, .bool G, .int .i64 a, .int .i64 b, .int .i64 q, .int .i64 d]) := Lib.hid (BlkL.new w _ _)
  have HA := Lib.hid h
  have HOK := Lib.hid hok
  have HV := Lib.hid hv
  have HR := Lib.hid hR
  have HF := Lib.hid hf
  clear h hsz hle hok hv
  have hF := HF.out
  go_enter Try.func13, Try.ntmps13
  go_wp2_with (with_reducible refine (awake21_any _).mono ?_)
  rintro e w1 ⟨rfl, hb1⟩
  have hb1' := B0.out.trans (hb1.mono (by simp))
  have B1 := Lib.hid hb1'
  have k1 := K0.out.below hb1
  have K1 := Lib.hid k1
  have r0 := k1.cell 0 _ rfl
  have r1 := k1.cell 1 _ rfl
  have r2 := k1.cell 2 _ rfl
  have r3 := k1.cell 3 _ rfl
  have r4 := k1.cell 4 _ rfl
  have r5 := k1.cell 5 _ rfl
  have rl := k1.lt
  clear hb1 hb1' k1 K0 B0
  have HC1 : Hid (Calls Try.prog 46 #[.agg #[.int .i64 E, .bool G, .int .i64 a, .int .i64 b, .int .i64 q, .int .i64 d]] w1 fun e w' => ∃ XA xc, e = .returned (.tuple #[.slice XA 0 xc, .int .i64 1]) ∧ Arg w' w'.heap.size XA 0 xc [] ∧ Below w1.heap.size w1 w') := by
    have := reply_badE2 w1 R HOK.out
    rw [HR.out] at this
    exact Lib.hid this
  go_wp2_with fail
  with_reducible refine (HC1.out).mono ?_
  rintro e w2 ⟨XA, xc, rfl, ha2, hb2⟩
  have HX2 := Lib.hid ha2
  have B2 := Lib.hid (B1.out.trans (hb2.mono B1.out.size))
  have k2 := K1.out.below hb2
  have K2 := Lib.hid k2
  clear r0 r1 r2 r3 r4 r5 rl
  have r0 := k2.cell 0 _ rfl
  have r1 := k2.cell 1 _ rfl
  have r2 := k2.cell 2 _ rfl
  have r3 := k2.cell 3 _ rfl
  have r4 := k2.cell 4 _ rfl
  have r5 := k2.cell 5 _ rfl
  have rl := k2.lt
  clear ha2 hb2 k2 K1 B1 HC1
  have HC2 : Hid (Calls Try.prog 47 #[.agg #[.int .i64 E, .bool G, .int .i64 a, .int .i64 b, .int .i64 q, .int .i64 d]] w2 fun e w' => ∃ XA xc, e = .returned (.tuple #[.slice XA 0 xc, .int .i64 1]) ∧ Arg w' w'.heap.size XA 0 xc [] ∧ Below w2.heap.size w2 w') := by
    have := docReply_badE w2 R HOK.out
    rw [HR.out] at this
    exact Lib.hid this
  go_wp2_with fail
  with_reducible refine (HC2.out).mono ?_
  rintro e w3 ⟨XB, xd, rfl, ha3, hb3⟩
  have HX3 := Lib.hid ((HX2.out.below hb3).more hb3.size)
  have HY3 := Lib.hid ha3
  have B3 := Lib.hid (B2.out.trans (hb3.mono B2.out.size))
  have K3 := Lib.hid (K2.out.below hb3)
  have A3 := Lib.hid ((HA.out.below (B2.out.trans (hb3.mono B2.out.size))).more (B2.out.trans (hb3.mono B2.out.size)).size)
  clear r0 r1 r2 r3 r4 r5 rl ha3 hb3 K2 B2 HX2 HC2
  have HC3 := Lib.hid (spare_any w3 A n c zs A3.out HSZ.out)
  go_wp2_with fail
  with_reducible refine (HC3.out).mono ?_
  rintro e w4 ⟨F, fd, rfl, ho4, hb4⟩
  have HX4 := Lib.hid ((HX3.out.below hb4).more hb4.size)
  have HY4 := Lib.hid ((HY3.out.below hb4).more hb4.size)
  have HF4 := Lib.hid ho4.arg
  have B4 := Lib.hid (B3.out.trans (hb4.mono B3.out.size))
  have K4 := Lib.hid (K3.out.below hb4)
  have A4 := Lib.hid ((A3.out.below hb4).more hb4.size)
  have hx4 := ho4.arg.take (k := n) (by omega)
  rw [List.take_left' A3.out.len] at hx4
  have HC4 := Lib.hid (readReply_is w4 F n fd zs hx4 X f HV.out)
  clear ho4 hb4 hx4 HX3 HY3 B3 K3 A3 HC3
  go_wp2_with fail
  with_reducible refine (HC4.out).mono ?_
  rintro e w5 ⟨rfl, hb5⟩
  obtain ⟨XE, XG, Xa, Xb, Xc, Xd⟩ := X
  have HX5 := Lib.hid ((HX4.out.below hb5).more hb5.size)
  have HY5 := Lib.hid ((HY4.out.below hb5).more hb5.size)
  have HF5 := Lib.hid ((HF4.out.below hb5).more hb5.size)
  have B5 := Lib.hid (B4.out.trans (hb5.mono B4.out.size))
  have K5 := Lib.hid (K4.out.below hb5)
  have A5 := Lib.hid ((A4.out.below hb5).more hb5.size)
  clear hb5 HX4 HY4 HF4 B4 K4 A4 HC4
  dsimp only [RpV.val]
  -- c is laid into a block
  have bl : Below w5.heap.size w5 (w5.alloc (.cells #[.int .i64 XE, .bool XG, .int .i64 Xa, .int .i64 Xb, .int .i64 Xc, .int .i64 Xd] 82)) := (Below.refl _ _).alloc (Nat.le_refl _) _
  have C6 : Hid (BlkL (w5.alloc (.cells #[.int .i64 XE, .bool XG, .int .i64 Xa, .int .i64 Xb, .int .i64 Xc, .int .i64 Xd] 82)) w5.heap.size [.int .i64 XE, .bool XG, .int .i64 Xa, .int .i64 Xb, .int .i64 Xc, .int .i64 Xd]) := Lib.hid (BlkL.new w5 _ _)
  have HX6 := Lib.hid ((HX5.out.below bl).more bl.size)
  have HY6 := Lib.hid ((HY5.out.below bl).more bl.size)
  have HF6 := Lib.hid ((HF5.out.below bl).more bl.size)
  have B6 := Lib.hid (B5.out.trans (bl.mono B5.out.size))
  have K6 := Lib.hid (K5.out.below bl)
  have A6 := Lib.hid ((A5.out.below bl).more bl.size)
  have HC5 : Hid (Calls Try.prog 49 #[.slice A n c] (w5.alloc (.cells #[.int .i64 XE, .bool XG, .int .i64 Xa, .int .i64 Xb, .int .i64 Xc, .int .i64 Xd] 82)) fun e w' => e = .returned (.tuple #[.agg #[.int .i64 XE, .bool XG, .int .i64 Xa, .int .i64 Xb, .int .i64 Xc, .int .i64 Xd], .int .i64 f]) ∧ Below (w5.alloc (.cells #[.int .i64 XE, .bool XG, .int .i64 Xa, .int .i64 Xb, .int .i64 Xc, .int .i64 Xd] 82)).heap.size (w5.alloc (.cells #[.int .i64 XE, .bool XG, .int .i64 Xa, .int .i64 Xb, .int .i64 Xc, .int .i64 Xd] 82)) w') := Lib.hid (docReadReply_is _ A n c zs A6.out _ f HV.out)
  clear bl HX5 HY5 HF5 B5 K5 A5
  go_wp2_with fail
  with_reducible refine (HC5.out).mono ?_
  rintro e w7 ⟨rfl, hb7⟩
  have bl : Below w7.heap.size w7 (w7.alloc (.cells #[.int .i64 XE, .bool XG, .int .i64 Xa, .int .i64 Xb, .int .i64 Xc, .int .i64 Xd] 82)) := (Below.refl _ _).alloc (Nat.le_refl _) _
  have b78 := hb7.trans (bl.mono hb7.size)
  have HX8 := Lib.hid ((HX6.out.below b78).more b78.size)
  have HY8 := Lib.hid ((HY6.out.below b78).more b78.size)
  have HF8 := Lib.hid ((HF6.out.below b78).more b78.size)
  have B8 := Lib.hid (B6.out.trans (b78.mono B6.out.size))
  have K8 := Lib.hid (K6.out.below b78)
  have C8 := Lib.hid (C6.out.below b78)
  have A8 := Lib.hid ((A6.out.below b78).more b78.size)
  have D8 : Hid (BlkL (w7.alloc (.cells #[.int .i64 XE, .bool XG, .int .i64 Xa, .int .i64 Xb, .int .i64 Xc, .int .i64 Xd] 82)) w7.heap.size [.int .i64 XE, .bool XG, .int .i64 Xa, .int .i64 Xb, .int .i64 Xc, .int .i64 Xd]) := Lib.hid (BlkL.new w7 _ _)
  have HS := Lib.hid (same_any _ _ _ XA XB 0 xc 0 xd _ _ true (by simp) HX8.out HY8.out)
  clear bl b78 hb7 HX6 HY6 HF6 B6 K6 C6 A6 HC5
  go_wp2_with fail
  with_reducible refine (HS.out).mono ?_
  rintro e w9 ⟨rfl, t9, hw9⟩
  have hb9 : Below (w7.alloc (.cells #[.int .i64 XE, .bool XG, .int .i64 Xa, .int .i64 Xb, .int .i64 Xc, .int .i64 Xd] 82)).heap.size (w7.alloc (.cells #[.int .i64 XE, .bool XG, .int .i64 Xa, .int .i64 Xb, .int .i64 Xc, .int .i64 Xd] 82)) w9 := by rw [hw9]; exact below_drewN (Below.refl _ _) t9
  have HX9 := Lib.hid ((HX8.out.below hb9).more hb9.size)
  have HF9 := Lib.hid ((HF8.out.below hb9).more hb9.size)
  have B9 := Lib.hid (B8.out.trans (hb9.mono B8.out.size))
  have k9 := K8.out.below hb9
  have K9 := Lib.hid k9
  have c9 := C8.out.below hb9
  have C9 := Lib.hid c9
  have d9 := D8.out.below hb9
  have A9 := Lib.hid ((A8.out.below hb9).more hb9.size)
  have y0 := c9.cell 0 _ rfl
  have y1 := c9.cell 1 _ rfl
  have y2 := c9.cell 2 _ rfl
  have y3 := c9.cell 3 _ rfl
  have y4 := c9.cell 4 _ rfl
  have y5 := c9.cell 5 _ rfl
  have yl := c9.lt
  have z0 := d9.cell 0 _ rfl
  have z1 := d9.cell 1 _ rfl
  have z2 := d9.cell 2 _ rfl
  have z3 := d9.cell 3 _ rfl
  have z4 := d9.cell 4 _ rfl
  have z5 := d9.cell 5 _ rfl
  have zl := d9.lt
  have HKP := Lib.hid (kept_any w9 _ _ F A n c fd zs HF9.out A9.out)
  have hneq : ∀ w, (binOp .neq 82 (.agg #[.int .i64 XE, .bool XG, .int .i64 Xa, .int .i64 Xb, .int .i64 Xc, .int .i64 Xd]) (.agg #[.int .i64 XE, .bool XG, .int .i64 Xa, .int .i64 Xb, .int .i64 Xc, .int .i64 Xd])).run Try.prog w = .ok (.bool false) w := fun w => neqRepX XE Xa Xb Xc Xd XG w
  have hff : (f != f) = false := by simp
  clear hw9 hb9 k9 c9 d9 HX8 HY8 HF8 B8 K8 C8 D8 A8 HS
  go_wp2_with fail
  with_reducible refine (HKP.out).mono ?_
  rintro e v0 ⟨rfl, tv, hwv⟩
  have hbv : Below w9.heap.size w9 v0 := by rw [hwv]; exact below_drewN (Below.refl _ _) tv
  have HXv := Lib.hid ((HX9.out.below hbv).more hbv.size)
  have Bv := Lib.hid (B9.out.trans (hbv.mono B9.out.size))
  have kv := K9.out.below hbv
  have Kv := Lib.hid kv
  have cv := C9.out.below hbv
  have Cv := Lib.hid cv
  have Av := Lib.hid ((A9.out.below hbv).more hbv.size)
  clear y0 y1 y2 y3 y4 y5 yl z0 z1 z2 z3 z4 z5 zl hneq hff
  have r0 := kv.cell 0 _ rfl
  have r1 := kv.cell 1 _ rfl
  have r2 := kv.cell 2 _ rfl
  have r3 := kv.cell 3 _ rfl
  have r4 := kv.cell 4 _ rfl
  have r5 := kv.cell 5 _ rfl
  have rl := kv.lt
  have y0 := cv.cell 0 _ rfl
  have y1 := cv.cell 1 _ rfl
  have y2 := cv.cell 2 _ rfl
  have y3 := cv.cell 3 _ rfl
  have y4 := cv.cell 4 _ rfl
  have y5 := cv.cell 5 _ rfl
  have yl := cv.lt
  clear hwv hbv kv cv HX9 HF9 B9 K9 C9 A9 HKP
  have HFX := rrV_fix (f_zero HV.out hF)
  have HC7 : Hid (Calls Try.prog 46 #[.agg #[.int .i64 XE, .bool XG, .int .i64 Xa, .int .i64 Xb, .int .i64 Xc, .int .i64 Xd]] v0 fun e w' => ∃ XA xc, e = .returned (.tuple #[.slice XA 34 xc, .int .i64 0]) ∧ Arg w' w'.heap.size XA 34 xc zs ∧ Below v0.heap.size v0 w') := by
    have := reply_good v0 _ HFX.1
    rw [HFX.2] at this
    exact Lib.hid this
  clear HFX
  go_wp2_with fail
  with_reducible refine (HC7.out).mono ?_
  rintro e v3 ⟨YA, yc, rfl, ha3, hb3⟩
  have B3 := Lib.hid (Bv.out.trans (hb3.mono Bv.out.size))
  have A3 := Lib.hid ((Av.out.below hb3).more hb3.size)
  have HS := Lib.hid (same_any v3 _ _ YA A 34 yc n c zs zs true (by simp) ha3 A3.out)
  clear ha3 hb3 HC7
  go_wp2_with fail
  with_reducible refine (HS.out).mono ?_
  rintro e v4 ⟨rfl, t4, hw4⟩
  have B4 : Hid (Below w.heap.size w v4) := by rw [hw4]; exact Lib.hid (below_drewN B3.out t4)
  clear hw4
  go_wp2
  go_ret
  exact ⟨rfl, B4.out⟩
set_option maxHeartbeats 3200000 in
theorem wr_nn (E : Int) (G : Bool) (a b q d : Int) (A : Option Addr) (n c : Nat) (zs : List Nat) (w : World) (h : Arg w w.heap.size A n c zs) (hsz : c ≤ 140737488351232) (R X : RpV) (hR : R = ⟨E, G, a, b, q, d⟩) (hok : R.ok = false) (f : Int) (hv : rrV zs = (X, f)) (hf : (f == 0) = false) :
    Calls Try.prog 13 #[.agg #[.int .i64 E, .bool G, .int .i64 a, .int .i64 b, .int .i64 q, .int .i64 d], .slice A n c] w fun e w' => e = .returned (.bool true) ∧ Below w.heap.size w w' := by
  have hle := h.le
  have HSZ : Hid (n ≤ 140737488355325) := Lib.hid (by omega)
  have B0 := Lib.hid ((Below.refl w.heap.size w).alloc (Nat.le_refl _) (.cells #[.int .i64 E, .bool G, .int .i64 a, .int .i64 b, .int .i64 q, .int .i64 d] 82))
  have K0 : Hid (BlkL (w.alloc (.cells #[.int .i64 E, .bool G, .int .i64 a, .int .i64 b, .int .i64 q, .int .i64 d] 82)) w.heap.size [.int .i64 E, .bool G, .int .i64 a, .int .i64 b, .int .i64 q, .int .i64 d]) := Lib.hid (BlkL.new w _ _)
  have HA := Lib.hid h
  have HOK := Lib.hid hok
  have HV := Lib.hid hv
  have HR := Lib.hid hR
  have HF := Lib.hid hf
  clear h hsz hle hok hv
  have hF := HF.out
  go_enter Try.func13, Try.ntmps13
  go_wp2_with (with_reducible refine (awake21_any _).mono ?_)
  rintro e w1 ⟨rfl, hb1⟩
  have hb1' := B0.out.trans (hb1.mono (by simp))
  have B1 := Lib.hid hb1'
  have k1 := K0.out.below hb1
  have K1 := Lib.hid k1
  have r0 := k1.cell 0 _ rfl
  have r1 := k1.cell 1 _ rfl
  have r2 := k1.cell 2 _ rfl
  have r3 := k1.cell 3 _ rfl
  have r4 := k1.cell 4 _ rfl
  have r5 := k1.cell 5 _ rfl
  have rl := k1.lt
  clear hb1 hb1' k1 K0 B0
  have HC1 : Hid (Calls Try.prog 46 #[.agg #[.int .i64 E, .bool G, .int .i64 a, .int .i64 b, .int .i64 q, .int .i64 d]] w1 fun e w' => ∃ XA xc, e = .returned (.tuple #[.slice XA 0 xc, .int .i64 1]) ∧ Arg w' w'.heap.size XA 0 xc [] ∧ Below w1.heap.size w1 w') := by
    have := reply_badE2 w1 R HOK.out
    rw [HR.out] at this
    exact Lib.hid this
  go_wp2_with fail
  with_reducible refine (HC1.out).mono ?_
  rintro e w2 ⟨XA, xc, rfl, ha2, hb2⟩
  have HX2 := Lib.hid ha2
  have B2 := Lib.hid (B1.out.trans (hb2.mono B1.out.size))
  have k2 := K1.out.below hb2
  have K2 := Lib.hid k2
  clear r0 r1 r2 r3 r4 r5 rl
  have r0 := k2.cell 0 _ rfl
  have r1 := k2.cell 1 _ rfl
  have r2 := k2.cell 2 _ rfl
  have r3 := k2.cell 3 _ rfl
  have r4 := k2.cell 4 _ rfl
  have r5 := k2.cell 5 _ rfl
  have rl := k2.lt
  clear ha2 hb2 k2 K1 B1 HC1
  have HC2 : Hid (Calls Try.prog 47 #[.agg #[.int .i64 E, .bool G, .int .i64 a, .int .i64 b, .int .i64 q, .int .i64 d]] w2 fun e w' => ∃ XA xc, e = .returned (.tuple #[.slice XA 0 xc, .int .i64 1]) ∧ Arg w' w'.heap.size XA 0 xc [] ∧ Below w2.heap.size w2 w') := by
    have := docReply_badE w2 R HOK.out
    rw [HR.out] at this
    exact Lib.hid this
  go_wp2_with fail
  with_reducible refine (HC2.out).mono ?_
  rintro e w3 ⟨XB, xd, rfl, ha3, hb3⟩
  have HX3 := Lib.hid ((HX2.out.below hb3).more hb3.size)
  have HY3 := Lib.hid ha3
  have B3 := Lib.hid (B2.out.trans (hb3.mono B2.out.size))
  have K3 := Lib.hid (K2.out.below hb3)
  have A3 := Lib.hid ((HA.out.below (B2.out.trans (hb3.mono B2.out.size))).more (B2.out.trans (hb3.mono B2.out.size)).size)
  clear r0 r1 r2 r3 r4 r5 rl ha3 hb3 K2 B2 HX2 HC2
  have HC3 := Lib.hid (spare_any w3 A n c zs A3.out HSZ.out)
  go_wp2_with fail
  with_reducible refine (HC3.out).mono ?_
  rintro e w4 ⟨F, fd, rfl, ho4, hb4⟩
  have HX4 := Lib.hid ((HX3.out.below hb4).more hb4.size)
  have HY4 := Lib.hid ((HY3.out.below hb4).more hb4.size)
  have HF4 := Lib.hid ho4.arg
  have B4 := Lib.hid (B3.out.trans (hb4.mono B3.out.size))
  have K4 := Lib.hid (K3.out.below hb4)
  have A4 := Lib.hid ((A3.out.below hb4).more hb4.size)
  have hx4 := ho4.arg.take (k := n) (by omega)
  rw [List.take_left' A3.out.len] at hx4
  have HC4 := Lib.hid (readReply_is w4 F n fd zs hx4 X f HV.out)
  clear ho4 hb4 hx4 HX3 HY3 B3 K3 A3 HC3
  go_wp2_with fail
  with_reducible refine (HC4.out).mono ?_
  rintro e w5 ⟨rfl, hb5⟩
  obtain ⟨XE, XG, Xa, Xb, Xc, Xd⟩ := X
  have HX5 := Lib.hid ((HX4.out.below hb5).more hb5.size)
  have HY5 := Lib.hid ((HY4.out.below hb5).more hb5.size)
  have HF5 := Lib.hid ((HF4.out.below hb5).more hb5.size)
  have B5 := Lib.hid (B4.out.trans (hb5.mono B4.out.size))
  have K5 := Lib.hid (K4.out.below hb5)
  have A5 := Lib.hid ((A4.out.below hb5).more hb5.size)
  clear hb5 HX4 HY4 HF4 B4 K4 A4 HC4
  dsimp only [RpV.val]
  -- c is laid into a block
  have bl : Below w5.heap.size w5 (w5.alloc (.cells #[.int .i64 XE, .bool XG, .int .i64 Xa, .int .i64 Xb, .int .i64 Xc, .int .i64 Xd] 82)) := (Below.refl _ _).alloc (Nat.le_refl _) _
  have C6 : Hid (BlkL (w5.alloc (.cells #[.int .i64 XE, .bool XG, .int .i64 Xa, .int .i64 Xb, .int .i64 Xc, .int .i64 Xd] 82)) w5.heap.size [.int .i64 XE, .bool XG, .int .i64 Xa, .int .i64 Xb, .int .i64 Xc, .int .i64 Xd]) := Lib.hid (BlkL.new w5 _ _)
  have HX6 := Lib.hid ((HX5.out.below bl).more bl.size)
  have HY6 := Lib.hid ((HY5.out.below bl).more bl.size)
  have HF6 := Lib.hid ((HF5.out.below bl).more bl.size)
  have B6 := Lib.hid (B5.out.trans (bl.mono B5.out.size))
  have K6 := Lib.hid (K5.out.below bl)
  have A6 := Lib.hid ((A5.out.below bl).more bl.size)
  have HC5 : Hid (Calls Try.prog 49 #[.slice A n c] (w5.alloc (.cells #[.int .i64 XE, .bool XG, .int .i64 Xa, .int .i64 Xb, .int .i64 Xc, .int .i64 Xd] 82)) fun e w' => e = .returned (.tuple #[.agg #[.int .i64 XE, .bool XG, .int .i64 Xa, .int .i64 Xb, .int .i64 Xc, .int .i64 Xd], .int .i64 f]) ∧ Below (w5.alloc (.cells #[.int .i64 XE, .bool XG, .int .i64 Xa, .int .i64 Xb, .int .i64 Xc, .int .i64 Xd] 82)).heap.size (w5.alloc (.cells #[.int .i64 XE, .bool XG, .int .i64 Xa, .int .i64 Xb, .int .i64 Xc, .int .i64 Xd] 82)) w') := Lib.hid (docReadReply_is _ A n c zs A6.out _ f HV.out)
  clear bl HX5 HY5 HF5 B5 K5 A5
  go_wp2_with fail
  with_reducible refine (HC5.out).mono ?_
  rintro e w7 ⟨rfl, hb7⟩
  have bl : Below w7.heap.size w7 (w7.alloc (.cells #[.int .i64 XE, .bool XG, .int .i64 Xa, .int .i64 Xb, .int .i64 Xc, .int .i64 Xd] 82)) := (Below.refl _ _).alloc (Nat.le_refl _) _
  have b78 := hb7.trans (bl.mono hb7.size)
  have HX8 := Lib.hid ((HX6.out.below b78).more b78.size)
  have HY8 := Lib.hid ((HY6.out.below b78).more b78.size)
  have HF8 := Lib.hid ((HF6.out.below b78).more b78.size)
  have B8 := Lib.hid (B6.out.trans (b78.mono B6.out.size))
  have K8 := Lib.hid (K6.out.below b78)
  have C8 := Lib.hid (C6.out.below b78)
  have A8 := Lib.hid ((A6.out.below b78).more b78.size)
  have D8 : Hid (BlkL (w7.alloc (.cells #[.int .i64 XE, .bool XG, .int .i64 Xa, .int .i64 Xb, .int .i64 Xc, .int .i64 Xd] 82)) w7.heap.size [.int .i64 XE, .bool XG, .int .i64 Xa, .int .i64 Xb, .int .i64 Xc, .int .i64 Xd]) := Lib.hid (BlkL.new w7 _ _)
  have HS := Lib.hid (same_any _ _ _ XA XB 0 xc 0 xd _ _ true (by simp) HX8.out HY8.out)
  clear bl b78 hb7 HX6 HY6 HF6 B6 K6 C6 A6 HC5
  go_wp2_with fail
  with_reducible refine (HS.out).mono ?_
  rintro e w9 ⟨rfl, t9, hw9⟩
  have hb9 : Below (w7.alloc (.cells #[.int .i64 XE, .bool XG, .int .i64 Xa, .int .i64 Xb, .int .i64 Xc, .int .i64 Xd] 82)).heap.size (w7.alloc (.cells #[.int .i64 XE, .bool XG, .int .i64 Xa, .int .i64 Xb, .int .i64 Xc, .int .i64 Xd] 82)) w9 := by rw [hw9]; exact below_drewN (Below.refl _ _) t9
  have HX9 := Lib.hid ((HX8.out.below hb9).more hb9.size)
  have HF9 := Lib.hid ((HF8.out.below hb9).more hb9.size)
  have B9 := Lib.hid (B8.out.trans (hb9.mono B8.out.size))
  have k9 := K8.out.below hb9
  have K9 := Lib.hid k9
  have c9 := C8.out.below hb9
  have C9 := Lib.hid c9
  have d9 := D8.out.below hb9
  have A9 := Lib.hid ((A8.out.below hb9).more hb9.size)
  have y0 := c9.cell 0 _ rfl
  have y1 := c9.cell 1 _ rfl
  have y2 := c9.cell 2 _ rfl
  have y3 := c9.cell 3 _ rfl
  have y4 := c9.cell 4 _ rfl
  have y5 := c9.cell 5 _ rfl
  have yl := c9.lt
  have z0 := d9.cell 0 _ rfl
  have z1 := d9.cell 1 _ rfl
  have z2 := d9.cell 2 _ rfl
  have z3 := d9.cell 3 _ rfl
  have z4 := d9.cell 4 _ rfl
  have z5 := d9.cell 5 _ rfl
  have zl := d9.lt
  have HKP := Lib.hid (kept_any w9 _ _ F A n c fd zs HF9.out A9.out)
  have hneq : ∀ w, (binOp .neq 82 (.agg #[.int .i64 XE, .bool XG, .int .i64 Xa, .int .i64 Xb, .int .i64 Xc, .int .i64 Xd]) (.agg #[.int .i64 XE, .bool XG, .int .i64 Xa, .int .i64 Xb, .int .i64 Xc, .int .i64 Xd])).run Try.prog w = .ok (.bool false) w := fun w => neqRepX XE Xa Xb Xc Xd XG w
  have hff : (f != f) = false := by simp
  clear hw9 hb9 k9 c9 d9 HX8 HY8 HF8 B8 K8 C8 D8 A8 HS
  go_wp2_with fail
  with_reducible refine (HKP.out).mono ?_
  rintro e v0 ⟨rfl, tv, hwv⟩
  have hbv : Below w9.heap.size w9 v0 := by rw [hwv]; exact below_drewN (Below.refl _ _) tv
  have HXv := Lib.hid ((HX9.out.below hbv).more hbv.size)
  have Bv := Lib.hid (B9.out.trans (hbv.mono B9.out.size))
  have kv := K9.out.below hbv
  have Kv := Lib.hid kv
  have cv := C9.out.below hbv
  have Cv := Lib.hid cv
  have Av := Lib.hid ((A9.out.below hbv).more hbv.size)
  clear y0 y1 y2 y3 y4 y5 yl z0 z1 z2 z3 z4 z5 zl hneq hff
  have r0 := kv.cell 0 _ rfl
  have r1 := kv.cell 1 _ rfl
  have r2 := kv.cell 2 _ rfl
  have r3 := kv.cell 3 _ rfl
  have r4 := kv.cell 4 _ rfl
  have r5 := kv.cell 5 _ rfl
  have rl := kv.lt
  have y0 := cv.cell 0 _ rfl
  have y1 := cv.cell 1 _ rfl
  have y2 := cv.cell 2 _ rfl
  have y3 := cv.cell 3 _ rfl
  have y4 := cv.cell 4 _ rfl
  have y5 := cv.cell 5 _ rfl
  have yl := cv.lt
  clear hwv hbv kv cv HX9 HF9 B9 K9 C9 A9 HKP
  go_wp2
  go_ret
  exact ⟨rfl, Bv.out⟩
theorem wireReplies_walk (E : Int) (G : Bool) (a b q d : Int) (A : Option Addr) (n c : Nat) (zs : List Nat) (w : World) (h : Arg w w.heap.size A n c zs) (hsz : c ≤ 140737488351232) :
    Calls Try.prog 13 #[.agg #[.int .i64 E, .bool G, .int .i64 a, .int .i64 b, .int .i64 q, .int .i64 d], .slice A n c] w fun e w' => e = .returned (.bool true) ∧ Below w.heap.size w w' := by
  obtain ⟨X, f, hx⟩ : ∃ X f, rrV zs = (X, f) := ⟨_, _, rfl⟩
  cases hok : (RpV.mk E G a b q d).ok with
  | true => cases hf : (f == 0) with
    | true => exact wr_yy E G a b q d A n c zs w h hsz _ X rfl hok f hx hf
    | false => exact wr_yn E G a b q d A n c zs w h hsz _ X rfl hok f hx hf
  | false => cases hf : (f == 0) with
    | true => exact wr_ny E G a b q d A n c zs w h hsz _ X rfl hok f hx hf
    | false => exact wr_nn E G a b q d A n c zs w h hsz _ X rfl hok f hx hf
end Go.Proofs.Ytlkkldegbopnpaa
