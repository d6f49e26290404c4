/- Picks of a shard's script: as cells; contract: fit. -/
import Derived.Test.YtpjgpiiibgogeaaShQ
namespace Go.Proofs.Ytpjgpiiibgogeaa
open Go.RowKit
set_option maxRecDepth 100000
set_option linter.unusedVariables false

structure PkV where
  who : Int
  op : Nat
  A : Option Addr
  n : Nat
  c : Nat
  zs : List Nat
  x : Int
abbrev noPk : PkV := ⟨0, 0, none, 0, 0, [], 0⟩
def PkV.cells (e : PkV) : List Value := [.int .i64 e.who, .int .u8 (e.op : Int), .slice e.A e.n e.c, .int .i64 e.x]
def FK (l : List PkV) : List Value := l.flatMap PkV.cells
theorem FK_len (l : List PkV) : (FK l).length = l.length * 4 := by
  induction l with
  | nil => rfl
  | cons a l ih => simp [FK, PkV.cells] at *; omega
theorem FK_at (l : List PkV) (i j : Nat) (h : i < l.length) (hj : j < 4) : (FK l)[i * 4 + j]? = (l.getD i noPk).cells[j]? := by
  induction l generalizing i with
  | nil => simp at h
  | cons a l ih =>
    cases i with
    | zero =>
      rw [Nat.zero_mul, Nat.zero_add]
      show (a.cells ++ FK l)[j]? = a.cells[j]?
      rw [List.getElem?_append_left (by simp [PkV.cells]; omega)]
    | succ i =>
      have := ih i (by simpa using h)
      show (a.cells ++ FK l)[(i + 1) * 4 + j]? = _
      rw [List.getElem?_append_right (by simp [PkV.cells]; omega)]
      have e : (i + 1) * 4 + j - a.cells.length = i * 4 + j := by simp [PkV.cells]; omega
      rw [e, this]; rfl
structure PkV.ok (e : PkV) : Prop where
  w0 : -9223372036854775808 ≤ e.who
  w1 : e.who ≤ 9223372036854775807
  o1 : e.op ≤ 255
  x0 : -9223372036854775808 ≤ e.x
  x1 : e.x ≤ 9223372036854775807
  kc : e.c ≤ 140737488351232
/-- A script that is read: below block B. -/
structure ScrA (w : World) (B : Nat) (A : Option Addr) (n c : Nat) (l : List PkV) : Prop where
  arg : ArgC w B 4 A n c (FK l)
  key : ∀ e ∈ l, Arg w B e.A e.n e.c e.zs ∧ e.ok
section
variable {w w' : World} {B B' n c : Nat} {A : Option Addr} {l : List PkV}
theorem ScrA.below (h : ScrA w B A n c l) (hb : Below B w w') : ScrA w' B A n c l := ⟨h.arg.below hb, fun e he => ⟨(h.key e he).1.below hb, (h.key e he).2⟩⟩
theorem ScrA.len (h : ScrA w B A n c l) : l.length = n := by have := h.arg.len; rw [FK_len] at this; omega
theorem pk_mem {l : List PkV} {i : Nat} (h : i < l.length) : l.getD i noPk ∈ l := by
  rw [List.getD_eq_getElem?_getD, List.getElem?_eq_getElem h]; exact List.getElem_mem h
theorem ScrA.at_ (h : ScrA w B A n c l) {i : Nat} (hi : i < n) : ∃ b off, A = some ⟨b, off, none⟩ ∧ b < B ∧ w.cell? ⟨b, off + i * 4, none⟩ = some (.int .i64 (l.getD i noPk).who) ∧ w.cell? ⟨b, off + i * 4 + 1, none⟩ = some (.int .u8 ((l.getD i noPk).op : Int)) ∧
    w.cell? ⟨b, off + i * 4 + 2, none⟩ = some (.slice (l.getD i noPk).A (l.getD i noPk).n (l.getD i noPk).c) ∧ w.cell? ⟨b, off + i * 4 + 3, none⟩ = some (.int .i64 (l.getD i noPk).x) ∧ Arg w B (l.getD i noPk).A (l.getD i noPk).n (l.getD i noPk).c (l.getD i noPk).zs ∧ (l.getD i noPk).ok := by
  obtain ⟨b, off, e, hb, hc⟩ := h.arg.at_ (by omega)
  have hl := h.len
  have hf := fun j hj => FK_at l i j (by omega) hj
  have hk := h.key _ (pk_mem (l := l) (i := i) (by omega))
  exact ⟨b, off, e, hb, (hc (i * 4) (by omega)).trans (hf 0 (by omega)), (hc (i * 4 + 1) (by omega)).trans (hf 1 (by omega)), (hc (i * 4 + 2) (by omega)).trans (hf 2 (by omega)), (hc (i * 4 + 3) (by omega)).trans (hf 3 (by omega)), hk.1, hk.2⟩
end

def fitOp (op : Nat) : Nat := if 4 < op then 1 + op % 4 else op
theorem fitOp_le (op : Nat) : fitOp op ≤ 4 := by unfold fitOp; split <;> omega
set_option maxHeartbeats 3200000 in
theorem fit_as (w : World) (who : Int) (op : Nat) (A : Option Addr) (n c : Nat) (x : Int) (ho : op ≤ 255) (hx1 : x ≤ 9223372036854775807) (hnc : n ≤ c) (hc : c ≤ 9223372036854775807) (k : Nat) (q : Nat) (hq : (q : Int) = who % 4) (hk : k = n) (hn : n ≤ 3) (h4 : op ≤ 4) :
    Calls Try.prog 49 #[.agg #[.int .i64 who, .int .u8 (op : Int), .slice A n c, .int .i64 x]] w fun e w' => e = .returned (.agg #[.int .i64 (q : Int), .int .u8 ((op : Nat) : Int), .slice A k c, .int .i64 (clampV x)]) ∧ Below w.heap.size w w' := by
  have HCL := Lib.hid (fun w => rclamp_any w x hx1)
  have hm : (IntKind.u64.wrap who).tmod 4 = (q : Int) := by rw [IntKind.wrap_u64, Int.tmod_eq_emod_of_nonneg (by omega)]; omega
  have q0 : (0 : Int) ≤ (q : Int) := by omega
  have q4 : (q : Int) < 4 := by omega
  subst hk
  have n3 : (k : Int) ≤ 3 := by omega
  have d4 : ¬ (4 : Int) < (op : Int) := by omega
  have HB := Lib.hid (((Below.refl w.heap.size w).alloc (by simp) (.cells #[.int .i64 (q : Int), .int .u8 (op : Int), .slice A k c, .int .i64 x] 72)).alloc (by simp) (.cells #[.int .i64 0, .int .u8 0, .slice none 0 0, .int .i64 0] 72))
  have k0 := (BlkL.new w [.int .i64 (q : Int), .int .u8 (op : Int), .slice A k c, .int .i64 x] 72).alloc (.cells #[.int .i64 0, .int .u8 0, .slice none 0 0, .int .i64 0] 72)
  have k1 := BlkL.new (w.alloc (.cells #[.int .i64 (q : Int), .int .u8 (op : Int), .slice A k c, .int .i64 x] 72)) [.int .i64 0, .int .u8 0, .slice none 0 0, .int .i64 0] 72
  rw [World.size_alloc] at k1
  have K0 := Lib.hid k0
  have K1 := Lib.hid k1
  clear k0 k1 hq
  go_enter Try.func49, Try.ntmps49
  go_wp2_with fail
  with_reducible refine (HCL.out _).mono ?_
  rintro e w1 ⟨rfl, hb1⟩
  have k0 := K0.out.below hb1
  have k1 := K1.out.below hb1
  have HB1 := Lib.hid (HB.out.trans (hb1.mono HB.out.size))
  clear hb1 K0 K1 HB HCL hm
  have c0 := k0.cell 0 _ rfl
  have c1 := k0.cell 1 _ rfl
  have c2 := k0.cell 2 _ rfl
  have c3 := k0.cell 3 _ rfl
  have f1 := k0.froz 1 (by simp)
  have f3 := k0.froz 3 (by simp)
  have l0 := k0.lt
  have r0 := k1.cell 0 _ rfl
  have r1 := k1.cell 1 _ rfl
  have r2 := k1.cell 2 _ rfl
  have r3 := k1.cell 3 _ rfl
  have g0 := k1.froz 0 (by simp)
  have g1 := k1.froz 1 (by simp)
  have g2 := k1.froz 2 (by simp)
  have g3 := k1.froz 3 (by simp)
  have l1 := k1.lt
  have KK := Lib.hid (And.intro k0 k1)
  clear k0 k1
  go_wp2
  have bz := (KK.out.2.other w.heap.size 3 (.int .i64 (clampV x)) (by omega)).put4 (.int .i64 (q : Int)) (.int .u8 (op : Int)) (.slice A k c) (.int .i64 (clampV x))
  have z0 := bz.cell 0 _ rfl
  have z1 := bz.cell 1 _ rfl
  have z2 := bz.cell 2 _ rfl
  have z3 := bz.cell 3 _ rfl
  have hbz := below_put4 (HB1.out.setCell (p := ⟨w.heap.size, 3, none⟩) (Nat.le_refl _) (.int .i64 (clampV x))) (b := w.heap.size + 1) (by omega) (.int .i64 (q : Int)) (.int .u8 (op : Int)) (.slice A k c) (.int .i64 (clampV x))
  clear bz r0 r1 r2 r3 g0 g1 g2 g3 c0 c1 c2 c3 f1 f3
  refine bodyPost_ret (v := .agg #[.int .i64 (q : Int), .int .u8 (op : Int), .slice A k c, .int .i64 (clampV x)]) (by simp [results, Try.results49, go_sem, z0, z1, z2, z3]) rfl ⟨rfl, hbz⟩

set_option maxHeartbeats 3200000 in
theorem fit_bs (w : World) (who : Int) (op : Nat) (A : Option Addr) (n c : Nat) (x : Int) (ho : op ≤ 255) (hx1 : x ≤ 9223372036854775807) (hnc : n ≤ c) (hc : c ≤ 9223372036854775807) (k : Nat) (q : Nat) (hq : (q : Int) = who % 4) (hk : k = 3) (hn : 3 < n) (h4 : op ≤ 4) :
    Calls Try.prog 49 #[.agg #[.int .i64 who, .int .u8 (op : Int), .slice A n c, .int .i64 x]] w fun e w' => e = .returned (.agg #[.int .i64 (q : Int), .int .u8 ((op : Nat) : Int), .slice A 3 c, .int .i64 (clampV x)]) ∧ Below w.heap.size w w' := by
  have HCL := Lib.hid (fun w => rclamp_any w x hx1)
  have hm : (IntKind.u64.wrap who).tmod 4 = (q : Int) := by rw [IntKind.wrap_u64, Int.tmod_eq_emod_of_nonneg (by omega)]; omega
  have q0 : (0 : Int) ≤ (q : Int) := by omega
  have q4 : (q : Int) < 4 := by omega
  subst hk
  have n3 : ¬ (n : Int) ≤ 3 := by omega
  have n4 : (3 : Int) ≤ (c : Int) := by omega
  have d4 : ¬ (4 : Int) < (op : Int) := by omega
  have HB := Lib.hid (((Below.refl w.heap.size w).alloc (by simp) (.cells #[.int .i64 (q : Int), .int .u8 (op : Int), .slice A 3 c, .int .i64 x] 72)).alloc (by simp) (.cells #[.int .i64 0, .int .u8 0, .slice none 0 0, .int .i64 0] 72))
  have k0 := (BlkL.new w [.int .i64 (q : Int), .int .u8 (op : Int), .slice A 3 c, .int .i64 x] 72).alloc (.cells #[.int .i64 0, .int .u8 0, .slice none 0 0, .int .i64 0] 72)
  have k1 := BlkL.new (w.alloc (.cells #[.int .i64 (q : Int), .int .u8 (op : Int), .slice A 3 c, .int .i64 x] 72)) [.int .i64 0, .int .u8 0, .slice none 0 0, .int .i64 0] 72
  rw [World.size_alloc] at k1
  have K0 := Lib.hid k0
  have K1 := Lib.hid k1
  clear k0 k1 hq
  go_enter Try.func49, Try.ntmps49
  go_wp2_with fail
  with_reducible refine (HCL.out _).mono ?_
  rintro e w1 ⟨rfl, hb1⟩
  have k0 := K0.out.below hb1
  have k1 := K1.out.below hb1
  have HB1 := Lib.hid (HB.out.trans (hb1.mono HB.out.size))
  clear hb1 K0 K1 HB HCL hm
  have c0 := k0.cell 0 _ rfl
  have c1 := k0.cell 1 _ rfl
  have c2 := k0.cell 2 _ rfl
  have c3 := k0.cell 3 _ rfl
  have f1 := k0.froz 1 (by simp)
  have f3 := k0.froz 3 (by simp)
  have l0 := k0.lt
  have r0 := k1.cell 0 _ rfl
  have r1 := k1.cell 1 _ rfl
  have r2 := k1.cell 2 _ rfl
  have r3 := k1.cell 3 _ rfl
  have g0 := k1.froz 0 (by simp)
  have g1 := k1.froz 1 (by simp)
  have g2 := k1.froz 2 (by simp)
  have g3 := k1.froz 3 (by simp)
  have l1 := k1.lt
  have KK := Lib.hid (And.intro k0 k1)
  clear k0 k1
  go_wp2
  have bz := (KK.out.2.other w.heap.size 3 (.int .i64 (clampV x)) (by omega)).put4 (.int .i64 (q : Int)) (.int .u8 (op : Int)) (.slice A 3 c) (.int .i64 (clampV x))
  have z0 := bz.cell 0 _ rfl
  have z1 := bz.cell 1 _ rfl
  have z2 := bz.cell 2 _ rfl
  have z3 := bz.cell 3 _ rfl
  have hbz := below_put4 (HB1.out.setCell (p := ⟨w.heap.size, 3, none⟩) (Nat.le_refl _) (.int .i64 (clampV x))) (b := w.heap.size + 1) (by omega) (.int .i64 (q : Int)) (.int .u8 (op : Int)) (.slice A 3 c) (.int .i64 (clampV x))
  clear bz r0 r1 r2 r3 g0 g1 g2 g3 c0 c1 c2 c3 f1 f3
  refine bodyPost_ret (v := .agg #[.int .i64 (q : Int), .int .u8 (op : Int), .slice A 3 c, .int .i64 (clampV x)]) (by simp [results, Try.results49, go_sem, z0, z1, z2, z3]) rfl ⟨rfl, hbz⟩

set_option maxHeartbeats 3200000 in
theorem fit_al (w : World) (who : Int) (op : Nat) (A : Option Addr) (n c : Nat) (x : Int) (ho : op ≤ 255) (hx1 : x ≤ 9223372036854775807) (hnc : n ≤ c) (hc : c ≤ 9223372036854775807) (k : Nat) (q : Nat) (hq : (q : Int) = who % 4) (hk : k = n) (hn : n ≤ 3) (h4 : 4 < op) :
    Calls Try.prog 49 #[.agg #[.int .i64 who, .int .u8 (op : Int), .slice A n c, .int .i64 x]] w fun e w' => e = .returned (.agg #[.int .i64 (q : Int), .int .u8 ((1 + op % 4 : Nat) : Int), .slice A k c, .int .i64 (clampV x)]) ∧ Below w.heap.size w w' := by
  have HCL := Lib.hid (fun w => rclamp_any w x hx1)
  have hm : (IntKind.u64.wrap who).tmod 4 = (q : Int) := by rw [IntKind.wrap_u64, Int.tmod_eq_emod_of_nonneg (by omega)]; omega
  have q0 : (0 : Int) ≤ (q : Int) := by omega
  have q4 : (q : Int) < 4 := by omega
  subst hk
  have n3 : (k : Int) ≤ 3 := by omega
  have d4 : (4 : Int) < (op : Int) := by omega
  have d5 : (op : Int) ≤ 255 := by omega
  have HB := Lib.hid (((Below.refl w.heap.size w).alloc (by simp) (.cells #[.int .i64 (q : Int), .int .u8 (op : Int), .slice A k c, .int .i64 x] 72)).alloc (by simp) (.cells #[.int .i64 0, .int .u8 0, .slice none 0 0, .int .i64 0] 72))
  have k0 := (BlkL.new w [.int .i64 (q : Int), .int .u8 (op : Int), .slice A k c, .int .i64 x] 72).alloc (.cells #[.int .i64 0, .int .u8 0, .slice none 0 0, .int .i64 0] 72)
  have k1 := BlkL.new (w.alloc (.cells #[.int .i64 (q : Int), .int .u8 (op : Int), .slice A k c, .int .i64 x] 72)) [.int .i64 0, .int .u8 0, .slice none 0 0, .int .i64 0] 72
  rw [World.size_alloc] at k1
  have K0 := Lib.hid k0
  have K1 := Lib.hid k1
  clear k0 k1 hq
  go_enter Try.func49, Try.ntmps49
  go_wp2_with fail
  with_reducible refine (HCL.out _).mono ?_
  rintro e w1 ⟨rfl, hb1⟩
  have k0 := K0.out.below hb1
  have k1 := K1.out.below hb1
  have HB1 := Lib.hid (HB.out.trans (hb1.mono HB.out.size))
  clear hb1 K0 K1 HB HCL hm
  have c0 := k0.cell 0 _ rfl
  have c1 := k0.cell 1 _ rfl
  have c2 := k0.cell 2 _ rfl
  have c3 := k0.cell 3 _ rfl
  have f1 := k0.froz 1 (by simp)
  have f3 := k0.froz 3 (by simp)
  have l0 := k0.lt
  have r0 := k1.cell 0 _ rfl
  have r1 := k1.cell 1 _ rfl
  have r2 := k1.cell 2 _ rfl
  have r3 := k1.cell 3 _ rfl
  have g0 := k1.froz 0 (by simp)
  have g1 := k1.froz 1 (by simp)
  have g2 := k1.froz 2 (by simp)
  have g3 := k1.froz 3 (by simp)
  have l1 := k1.lt
  have KK := Lib.hid (And.intro k0 k1)
  clear k0 k1
  go_wp2
  have bz := ((KK.out.2.other w.heap.size 3 (.int .i64 (clampV x)) (by omega)).other w.heap.size 1 (.int .u8 (1 + (op : Int) % 4)) (by omega)).put4 (.int .i64 (q : Int)) (.int .u8 (1 + (op : Int) % 4)) (.slice A k c) (.int .i64 (clampV x))
  have z0 := bz.cell 0 _ rfl
  have z1 := bz.cell 1 _ rfl
  have z2 := bz.cell 2 _ rfl
  have z3 := bz.cell 3 _ rfl
  have hbz := below_put4 ((HB1.out.setCell (p := ⟨w.heap.size, 3, none⟩) (Nat.le_refl _) (.int .i64 (clampV x))).setCell (p := ⟨w.heap.size, 1, none⟩) (Nat.le_refl _) (.int .u8 (1 + (op : Int) % 4))) (b := w.heap.size + 1) (by omega) (.int .i64 (q : Int)) (.int .u8 (1 + (op : Int) % 4)) (.slice A k c) (.int .i64 (clampV x))
  clear bz r0 r1 r2 r3 g0 g1 g2 g3 c0 c1 c2 c3 f1 f3
  refine bodyPost_ret (v := .agg #[.int .i64 (q : Int), .int .u8 (1 + (op : Int) % 4), .slice A k c, .int .i64 (clampV x)]) (by simp [results, Try.results49, go_sem, z0, z1, z2, z3]) rfl ⟨by simp, hbz⟩

set_option maxHeartbeats 3200000 in
theorem fit_bl (w : World) (who : Int) (op : Nat) (A : Option Addr) (n c : Nat) (x : Int) (ho : op ≤ 255) (hx1 : x ≤ 9223372036854775807) (hnc : n ≤ c) (hc : c ≤ 9223372036854775807) (k : Nat) (q : Nat) (hq : (q : Int) = who % 4) (hk : k = 3) (hn : 3 < n) (h4 : 4 < op) :
    Calls Try.prog 49 #[.agg #[.int .i64 who, .int .u8 (op : Int), .slice A n c, .int .i64 x]] w fun e w' => e = .returned (.agg #[.int .i64 (q : Int), .int .u8 ((1 + op % 4 : Nat) : Int), .slice A 3 c, .int .i64 (clampV x)]) ∧ Below w.heap.size w w' := by
  have HCL := Lib.hid (fun w => rclamp_any w x hx1)
  have hm : (IntKind.u64.wrap who).tmod 4 = (q : Int) := by rw [IntKind.wrap_u64, Int.tmod_eq_emod_of_nonneg (by omega)]; omega
  have q0 : (0 : Int) ≤ (q : Int) := by omega
  have q4 : (q : Int) < 4 := by omega
  subst hk
  have n3 : ¬ (n : Int) ≤ 3 := by omega
  have n4 : (3 : Int) ≤ (c : Int) := by omega
  have d4 : (4 : Int) < (op : Int) := by omega
  have d5 : (op : Int) ≤ 255 := by omega
  have HB := Lib.hid (((Below.refl w.heap.size w).alloc (by simp) (.cells #[.int .i64 (q : Int), .int .u8 (op : Int), .slice A 3 c, .int .i64 x] 72)).alloc (by simp) (.cells #[.int .i64 0, .int .u8 0, .slice none 0 0, .int .i64 0] 72))
  have k0 := (BlkL.new w [.int .i64 (q : Int), .int .u8 (op : Int), .slice A 3 c, .int .i64 x] 72).alloc (.cells #[.int .i64 0, .int .u8 0, .slice none 0 0, .int .i64 0] 72)
  have k1 := BlkL.new (w.alloc (.cells #[.int .i64 (q : Int), .int .u8 (op : Int), .slice A 3 c, .int .i64 x] 72)) [.int .i64 0, .int .u8 0, .slice none 0 0, .int .i64 0] 72
  rw [World.size_alloc] at k1
  have K0 := Lib.hid k0
  have K1 := Lib.hid k1
  clear k0 k1 hq
  go_enter Try.func49, Try.ntmps49
  go_wp2_with fail
  with_reducible refine (HCL.out _).mono ?_
  rintro e w1 ⟨rfl, hb1⟩
  have k0 := K0.out.below hb1
  have k1 := K1.out.below hb1
  have HB1 := Lib.hid (HB.out.trans (hb1.mono HB.out.size))
  clear hb1 K0 K1 HB HCL hm
  have c0 := k0.cell 0 _ rfl
  have c1 := k0.cell 1 _ rfl
  have c2 := k0.cell 2 _ rfl
  have c3 := k0.cell 3 _ rfl
  have f1 := k0.froz 1 (by simp)
  have f3 := k0.froz 3 (by simp)
  have l0 := k0.lt
  have r0 := k1.cell 0 _ rfl
  have r1 := k1.cell 1 _ rfl
  have r2 := k1.cell 2 _ rfl
  have r3 := k1.cell 3 _ rfl
  have g0 := k1.froz 0 (by simp)
  have g1 := k1.froz 1 (by simp)
  have g2 := k1.froz 2 (by simp)
  have g3 := k1.froz 3 (by simp)
  have l1 := k1.lt
  have KK := Lib.hid (And.intro k0 k1)
  clear k0 k1
  go_wp2
  have bz := ((KK.out.2.other w.heap.size 3 (.int .i64 (clampV x)) (by omega)).other w.heap.size 1 (.int .u8 (1 + (op : Int) % 4)) (by omega)).put4 (.int .i64 (q : Int)) (.int .u8 (1 + (op : Int) % 4)) (.slice A 3 c) (.int .i64 (clampV x))
  have z0 := bz.cell 0 _ rfl
  have z1 := bz.cell 1 _ rfl
  have z2 := bz.cell 2 _ rfl
  have z3 := bz.cell 3 _ rfl
  have hbz := below_put4 ((HB1.out.setCell (p := ⟨w.heap.size, 3, none⟩) (Nat.le_refl _) (.int .i64 (clampV x))).setCell (p := ⟨w.heap.size, 1, none⟩) (Nat.le_refl _) (.int .u8 (1 + (op : Int) % 4))) (b := w.heap.size + 1) (by omega) (.int .i64 (q : Int)) (.int .u8 (1 + (op : Int) % 4)) (.slice A 3 c) (.int .i64 (clampV x))
  clear bz r0 r1 r2 r3 g0 g1 g2 g3 c0 c1 c2 c3 f1 f3
  refine bodyPost_ret (v := .agg #[.int .i64 (q : Int), .int .u8 (1 + (op : Int) % 4), .slice A 3 c, .int .i64 (clampV x)]) (by simp [results, Try.results49, go_sem, z0, z1, z2, z3]) rfl ⟨by simp, hbz⟩

theorem fit_any (w : World) (who : Int) (op : Nat) (A : Option Addr) (n c : Nat) (x : Int) (ho : op ≤ 255) (hx1 : x ≤ 9223372036854775807) (hnc : n ≤ c) (hc : c ≤ 9223372036854775807) (k : Nat) (hk : k = min n 3) (q : Nat) (hq : (q : Int) = who % 4) (o : Nat) (hoo : o = fitOp op) :
    Calls Try.prog 49 #[.agg #[.int .i64 who, .int .u8 (op : Int), .slice A n c, .int .i64 x]] w fun e w' => e = .returned (.agg #[.int .i64 (q : Int), .int .u8 (o : Int), .slice A k c, .int .i64 (clampV x)]) ∧ Below w.heap.size w w' := by
  rcases Nat.lt_or_ge 4 op with h4 | h4
  · have e : o = 1 + op % 4 := by rw [hoo]; unfold fitOp; rw [if_pos h4]
    rw [e]
    rcases Nat.lt_or_ge 3 n with hn | hn
    · rw [show k = 3 by omega]; exact fit_bl w who op A n c x ho hx1 hnc hc 3 q hq rfl hn h4
    · exact fit_al w who op A n c x ho hx1 hnc hc k q hq (by omega) hn h4
  · have e : o = op := by rw [hoo]; unfold fitOp; rw [if_neg (by omega)]
    rw [e]
    rcases Nat.lt_or_ge 3 n with hn | hn
    · rw [show k = 3 by omega]; exact fit_bs w who op A n c x ho hx1 hnc hc 3 q hq rfl hn h4
    · exact fit_as w who op A n c x ho hx1 hnc hc k q hq (by omega) hn h4
end Go.Proofs.Ytpjgpiiibgogeaa
