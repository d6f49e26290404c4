/- Contract: the law's awake of layer 21. -/
import Derived.Test.YtndgladfcogiiaaWrS
import Derived.Test.YtndgladfcogiiaaFrI
namespace Go.Proofs.Ytndgladfcogiiaa
open Go.RowKit
set_option maxRecDepth 100000
set_option linter.unusedVariables false

theorem neqRepX (a b c d e : Int) (g : Bool) (w : World) : (binOp .neq 82 (.agg #[.int .i64 a, .bool g, .int .i64 b, .int .i64 c, .int .i64 d, .int .i64 e]) (.agg #[.int .i64 a, .bool g, .int .i64 b, .int .i64 c, .int .i64 d, .int .i64 e])).run Try.prog w = .ok (.bool false) w := by simp [go_sem, Result.andThen]
theorem eqRepX (a b c d e : Int) (g : Bool) (w : World) : (binOp .eql 82 (.agg #[.int .i64 a, .bool g, .int .i64 b, .int .i64 c, .int .i64 d, .int .i64 e]) (.agg #[.int .i64 a, .bool g, .int .i64 b, .int .i64 c, .int .i64 d, .int .i64 e])).run Try.prog w = .ok (.bool true) w := by simp [go_sem, Result.andThen]
theorem wrap_num {a : Int} (h : tkB a = true) : IntKind.i64.wrap ((Tk.numV (Tk.wordV a.toNat 8) : Nat) : Int) = a := by
  have := tkB_true h
  rw [Tk.numV_wordV, Nat.mod_eq_of_lt (by omega), IntWalk.i64_in _ (by omega)]
  omega
theorem RpV.ok_all {r : RpV} (h : r.ok = true) : (0 ≤ r.E ∧ r.E ≤ 16) ∧ tkB r.a = true ∧ tkB r.b = true ∧ tkB r.c = true ∧ tkB r.d = true := by
  unfold RpV.ok RpV.eB at h
  simp only [Bool.and_eq_true, decide_eq_true_eq] at h
  obtain ⟨⟨⟨⟨⟨h1, h2⟩, h3⟩, h4⟩, h5⟩, h6⟩ := h
  exact ⟨⟨h1, h2⟩, h3, h4, h5, h6⟩
theorem rdV_bytes {r : RpV} (h : r.ok = true) : rdV r.bytes = r := by
  obtain ⟨⟨h1, h2⟩, h3, h4, h5, h6⟩ := r.ok_all h
  obtain ⟨E, G, a, b, c, d⟩ := r
  dsimp only at *
  have e0 : RpV.bytes ⟨E, G, a, b, c, d⟩ = E.toNat :: (if G then 1 else 0) :: (Tk.wordV a.toNat 8 ++ (Tk.wordV b.toNat 8 ++ (Tk.wordV c.toNat 8 ++ Tk.wordV d.toNat 8))) := by simp [RpV.bytes]
  have l (x : Nat) : (Tk.wordV x 8).length = 8 := Tk.wordV_len x 8
  have d2 : (RpV.bytes ⟨E, G, a, b, c, d⟩).drop 2 = Tk.wordV a.toNat 8 ++ (Tk.wordV b.toNat 8 ++ (Tk.wordV c.toNat 8 ++ Tk.wordV d.toNat 8)) := by rw [e0]; rfl
  have d10 : (RpV.bytes ⟨E, G, a, b, c, d⟩).drop 10 = Tk.wordV b.toNat 8 ++ (Tk.wordV c.toNat 8 ++ Tk.wordV d.toNat 8) := by
    rw [show (10 : Nat) = 2 + 8 by rfl, ← List.drop_drop, d2, List.drop_left' (l _)]
  have d18 : (RpV.bytes ⟨E, G, a, b, c, d⟩).drop 18 = Tk.wordV c.toNat 8 ++ Tk.wordV d.toNat 8 := by
    rw [show (18 : Nat) = 10 + 8 by rfl, ← List.drop_drop, d10, List.drop_left' (l _)]
  have d26 : (RpV.bytes ⟨E, G, a, b, c, d⟩).drop 26 = Tk.wordV d.toNat 8 := by
    rw [show (26 : Nat) = 18 + 8 by rfl, ← List.drop_drop, d18, List.drop_left' (l _)]
  unfold rdV n8
  rw [d2, d10, d18, d26, List.take_left' (l _), List.take_left' (l _), List.take_left' (l _), List.take_of_length_le (by rw [l]; omega), wrap_num h3, wrap_num h4, wrap_num h5, wrap_num h6, e0]
  simp only [List.getD_cons_zero, List.getD_cons_succ, RpV.mk.injEq, and_true]
  refine ⟨by omega, ?_⟩
  cases G <;> simp
theorem rrV_self {r : RpV} (h : r.ok = true) : rrV r.bytes = (r, 0) := by
  unfold rrV
  rw [r.len, if_neg (by omega), rdV_bytes h, if_pos ⟨by omega, h, rfl⟩]
theorem rrV_fix {zs : List Nat} {x : RpV} (h : rrV zs = (x, 0)) : x.ok = true ∧ x.bytes = zs := by
  unfold rrV at h
  split at h
  · simp at h
  split at h
  · rename_i hh
    simp only [Prod.mk.injEq, and_true] at h
    subst h
    exact ⟨hh.2.1, hh.2.2⟩
  · simp at h
abbrev awB : List Nat := [1, 1, 1, 97, 0, 0, 0, 0, 0, 0, 0, 2]
theorem aw_rq : rqV awB = (⟨1, 1, 2, [97]⟩, 0) := by rfl
theorem aw_req (w : World) : Calls Try.prog 44 #[ClA 1 1 (some ⟨w.heap.size, 0, none⟩) 1 1 2] (w.alloc (.cells #[.int .u8 97] 5)) fun e w' => ∃ A c, e = .returned (.tuple #[.slice A 12 c, .int .i64 0]) ∧ Arg w' w'.heap.size A 12 c awB ∧ Below w.heap.size w w' := by
  refine (request_any _ (w.heap.size + 1) 1 1 2 _ 1 1 [97] (lit97 w) (by simp)).mono ?_
  rintro e w' ⟨XA, xn, xc, he, ha, hb⟩
  have h1 : rqC 1 1 2 ([97] : List Nat).length = 0 := rfl
  have h2 : rqB 1 1 2 [97] = awB := rfl
  rw [h1] at he ha
  rw [if_pos rfl, h2] at ha
  have hl := ha.len
  simp at hl
  subst hl
  exact ⟨XA, xc, he, ha, ((Below.refl _ _).alloc (Nat.le_refl _) _).trans (hb.mono (by simp))⟩
abbrev awR : RpV := ⟨0, true, 2, 0, 0, 100⟩
set_option maxHeartbeats 3200000 in
theorem awake21_any (w : World) : Calls Try.prog 43 #[] w (ValEnd w (.bool true)) := by
  have HE := Lib.hid (aw_req w)
  go_enter Try.func43, Try.ntmps43
  go_wp2_with fail
  with_reducible refine (HE.out).mono ?_
  rintro e w1 ⟨P, pc, rfl, hp1, hb1⟩
  have HP1 := Lib.hid hp1
  have HB1 := Lib.hid hb1
  have HRR : Hid (Calls Try.prog 46 #[.slice P 12 pc] w1 (ClX w1 (⟨1, 1, 2, [97]⟩, 0))) := by
    have := readRequest_any w1 P 12 pc awB hp1
    rw [aw_rq] at this
    exact Lib.hid this
  clear hp1 hb1 HE
  go_wp2_with fail
  with_reducible refine (HRR.out).mono ?_
  rintro e w2 ⟨KA, kc, rfl, hk2, hb2⟩
  dsimp only at hk2 ⊢
  have HB2 := Lib.hid (HB1.out.trans (hb2.mono HB1.out.size))
  have HP2 := Lib.hid ((HP1.out.more (Nat.le_refl _)).below hb2)
  have HK2 := Lib.hid (hk2.mono HB1.out.size)
  have C2 : BlkL (w2.alloc (.cells #[.int .u8 1, .int .i64 1, .slice KA 1 kc, .int .i64 2] 71)) w2.heap.size [.int .u8 1, .int .i64 1, .slice KA 1 kc, .int .i64 2] := BlkL.new w2 _ _
  have HC2 := Lib.hid C2
  have HZ2 := Lib.hid hb2.size
  clear hk2 hb2 HRR C2 HP1 HB1
  have HQ := Lib.hid (reply_good (w2.alloc (.cells #[.int .u8 1, .int .i64 1, .slice KA 1 kc, .int .i64 2] 71)) awR (by decide))
  go_wp2_with fail
  with_reducible refine (HQ.out).mono ?_
  rintro e w3 ⟨Q, qc, rfl, hq3, hb3⟩
  have hb3' : Below w2.heap.size w2 w3 := ((Below.refl _ _).alloc (Nat.le_refl _) _).trans (hb3.mono (by simp))
  have HB3 := Lib.hid (HB2.out.trans (hb3'.mono HB2.out.size))
  have HP3 := Lib.hid ((HP2.out).keep hb3' HZ2.out)
  have HK3 := Lib.hid (HK2.out.below hb3')
  have HC3 := Lib.hid (HC2.out.below hb3)
  have HZ3 := Lib.hid hb3'.size
  have HR : Hid (Calls Try.prog 52 #[.slice Q 34 qc] w3 fun e w' => e = .returned (.tuple #[awR.val, .int .i64 0]) ∧ Below w3.heap.size w3 w') := by
    have := readReply_any w3 Q 34 qc _ hq3
    unfold RrX at this
    rw [rrV_self (by decide)] at this
    exact Lib.hid this
  clear hq3 hb3 hb3' HQ HP2 HK2 HC2 HB2
  go_wp2_with fail
  with_reducible refine (HR.out).mono ?_
  rintro e w4 ⟨rfl, hb4⟩
  have bel5 : Below w4.heap.size w4 ((w4.alloc (.cells awR.cells.toArray 82)).alloc (.cells (awB.map V8).toArray 5)) := ((Below.refl _ _).alloc (Nat.le_refl _) _).alloc (by simp) _
  have hz4 := hb4.size
  have bb5 := hb4.trans (bel5.mono hz4)
  have HB5 := Lib.hid (HB3.out.trans (bb5.mono HB3.out.size))
  have HP5 := Lib.hid (HP3.out.keep bb5 (by have := HZ2.out; have := HZ3.out; omega))
  have HK5 := Lib.hid (HK3.out.below bb5)
  have HC5 := Lib.hid (HC3.out.below bb5)
  have HR5 : Hid (BlkL ((w4.alloc (.cells awR.cells.toArray 82)).alloc (.cells (awB.map V8).toArray 5)) w4.heap.size awR.cells) := Lib.hid ((BlkL.new w4 awR.cells 82).alloc _)
  have hlit := lit_arg (w4.alloc (.cells awR.cells.toArray 82)) awB (by decide) (by simp [maxLen])
  rw [World.size_alloc] at hlit
  have HZ4 : Hid (w2.heap.size < w4.heap.size) := Lib.hid (by have := HC3.out.lt; omega)
  have HS := Lib.hid (same_any _ _ _ P _ 12 pc 12 12 awB awB true (by simp) HP5.out hlit)
  clear hb4 bel5 bb5 hz4 hlit HR HP3 HK3 HC3 HB3
  go_wp2_with fail
  refine (HS.out).mono ?_
  rintro e w6 ⟨rfl, t6, hw6⟩
  have B6 : Hid (Below w.heap.size w w6) := by rw [hw6]; exact Lib.hid (below_drewN HB5.out t6)
  have K6 : Hid (OwnV w6 w.heap.size KA 1 kc ([97].map V8)) := by rw [hw6]; exact Lib.hid (HK5.out.below (below_drewN (Below.refl _ _) t6))
  have c6 : BlkL w6 w2.heap.size [.int .u8 1, .int .i64 1, .slice KA 1 kc, .int .i64 2] := by rw [hw6]; exact HC5.out.drewN t6
  have r6 : BlkL w6 w4.heap.size awR.cells := by rw [hw6]; exact HR5.out.drewN t6
  clear hw6 HB5 HK5 HC5 HR5 HS HP5
  have C6 := Lib.hid c6
  have R6 := Lib.hid r6
  have c0 := c6.cell 0 _ rfl
  have c1 := c6.cell 1 _ rfl
  have c2 := c6.cell 2 _ rfl
  have c3 := c6.cell 3 _ rfl
  have lc := c6.lt
  have l97 := lit97 w6
  have k7 := K6.out.below ((Below.refl _ _).alloc (Nat.le_refl _) (.cells #[.int .u8 97] 5))
  have HSM := Lib.hid (same21_any (w6.alloc (.cells #[.int .u8 97] 5)) _ _ KA _ 1 kc 1 1 ⟨1, 1, 2, [97]⟩ ⟨1, 1, 2, [97]⟩ true (by decide) (k7.arg' (by simp)) l97 (Nat.le_refl _) (by simp))
  clear c6 r6 l97 k7
  go_wp2_with fail
  refine (HSM.out).mono ?_
  rintro e w8 ⟨rfl, hb8⟩
  have hb8' : Below w6.heap.size w6 w8 := ((Below.refl _ _).alloc (Nat.le_refl _) _).trans (hb8.mono (by simp))
  have r8 := R6.out.below hb8'
  have B8 := Lib.hid (B6.out.trans (hb8'.mono B6.out.size))
  have q0 := r8.cell 0 _ rfl
  have q1 := r8.cell 1 _ rfl
  have q2 := r8.cell 2 _ rfl
  have q3 := r8.cell 3 _ rfl
  have q4 := r8.cell 4 _ rfl
  have q5 := r8.cell 5 _ rfl
  have heq : ∀ w, (binOp .eql 82 (.agg #[.int .i64 0, .bool true, .int .i64 2, .int .i64 0, .int .i64 0, .int .i64 100]) (.agg #[.int .i64 0, .bool true, .int .i64 2, .int .i64 0, .int .i64 0, .int .i64 100])).run Try.prog w = .ok (.bool true) w := fun w => eqRepX 0 2 0 0 100 true w
  clear hb8 hb8' r8 HSM c0 c1 c2 c3
  go_wp2
  go_ret
  exact ⟨rfl, B8.out⟩
end Go.Proofs.Ytndgladfcogiiaa
