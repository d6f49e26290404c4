/- Contracts: numbers read one behind the other; readReply. -/
import Derived.Test.YtndgladfcogiiaaWrB
import Derived.Test.YtndgladfcogiiaaFrCM
namespace Go.Proofs.Ytndgladfcogiiaa
open Go.RowKit
set_option maxRecDepth 100000
set_option linter.unusedVariables false

/-- What is still to be read. -/
structure RdS (w : World) (B sb : Nat) (A : Option Addr) (n c : Nat) (zs : List Nat) : Prop where
  blk : BlkL w sb [.slice A n c]
  arg : Arg w B A n c zs
  le : B ≤ sb
theorem RdS.below {w w' : World} {B sb n c : Nat} {A : Option Addr} {zs : List Nat} (h : RdS w B sb A n c zs) (hb : Below w.heap.size w w') : RdS w' B sb A n c zs :=
  ⟨h.blk.below hb, h.arg.keep hb (by have := h.blk.lt; have := h.le; omega), h.le⟩
theorem RdS.off {w w' : World} {B sb n c : Nat} {A : Option Addr} {zs S : List Nat} (h : RdS w B sb A n c zs) (hf : Off S w w') (hs : sb ∉ S) (hS : ∀ y ∈ S, B ≤ y) : RdS w' B sb A n c zs :=
  ⟨h.blk.off hf hs, h.arg.below (hf.below (by have := h.blk.lt; have := h.le; omega) hS), h.le⟩
/-- How a read of m bytes ends. -/
def NumS (w : World) (B sb m n r : Nat) (zs : List Nat) (e : Ending) (w' : World) : Prop :=
  ∃ A' c', e = .returned (.int .u64 (r : Int)) ∧ RdS w' B sb A' (n - m) c' (zs.drop m) ∧ Off [sb] w w'
theorem num_st (w : World) (B sb m r : Nat) (A : Option Addr) (n c : Nat) (zs : List Nat) (h : RdS w B sb A n c zs) (hr : Tk.numV (zs.take m) = r) (hm : m ≤ n) (hm8 : m ≤ 8) :
    Calls Try.prog 123 #[.pointer (some ⟨sb, 0, none⟩), .int .i64 (m : Int)] w (NumS w B sb m n r zs) := by
  refine (number_r w B sb m r A n c zs hr h.blk h.arg h.le hm hm8).mono ?_
  rintro e w' ⟨rfl, rfl⟩
  exact ⟨frB A c m, c - m, rfl, ⟨h.blk.set 0 _ (by simp), (h.arg.fromB hm).below ((Below.refl _ _).setCell h.le _), h.le⟩, (Off.refl _ _).setCell (p := ⟨sb, 0, none⟩) (by simp) _⟩
theorem num1 (w : World) (B sb r : Nat) (A : Option Addr) (n c : Nat) (zs : List Nat) (h : RdS w B sb A n c zs) (hr : zs.getD 0 0 = r) (hm : 1 ≤ n) : Calls Try.prog 123 #[.pointer (some ⟨sb, 0, none⟩), .int .i64 1] w (NumS w B sb 1 n r zs) := by
  refine num_st w B sb 1 r A n c zs h ?_ hm (by omega)
  have hl := h.arg.len
  cases zs with
  | nil => simp at hl; omega
  | cons x l => simp at hr; subst hr; simp [Tk.numV]
theorem num8 (w : World) (B sb r : Nat) (A : Option Addr) (n c : Nat) (zs : List Nat) (h : RdS w B sb A n c zs) (hr : Tk.numV (zs.take 8) = r) (hm : 8 ≤ n) : Calls Try.prog 123 #[.pointer (some ⟨sb, 0, none⟩), .int .i64 8] w (NumS w B sb 8 n r zs) := num_st w B sb 8 r A n c zs h hr hm (by omega)
theorem num1_no (w : World) (B sb : Nat) (A : Option Addr) (n c : Nat) (zs : List Nat) (h : RdS w B sb A n c zs) (hm : n < 1) : Calls Try.prog 123 #[.pointer (some ⟨sb, 0, none⟩), .int .i64 1] w (Fell w) := number_fell w sb 1 A n c h.blk hm
theorem num8_no (w : World) (B sb : Nat) (A : Option Addr) (n c : Nat) (zs : List Nat) (h : RdS w B sb A n c zs) (hm : n < 8) : Calls Try.prog 123 #[.pointer (some ⟨sb, 0, none⟩), .int .i64 8] w (Fell w) := number_fell w sb 8 A n c h.blk hm
/-- A panic for want of bytes. -/
def FellO (w : World) (S : List Nat) (e : Ending) (w' : World) : Prop := e = .panicked [{ v := .iface 186 (.agg #[]), recovered := false }] ∧ Off S w w'

/-- The number of eight bytes from k on, as an int64. -/
def n8 (zs : List Nat) (k : Nat) : Int := IntKind.i64.wrap ((Tk.numV ((zs.drop k).take 8) : Nat) : Int)
def rdV (zs : List Nat) : RpV := ⟨(zs.getD 0 0 : Nat), decide (zs.getD 1 0 = 1), n8 zs 2, n8 zs 10, n8 zs 18, n8 zs 26⟩
def RrE (w : World) (sb : Nat) (zs : List Nat) (e : Ending) (w' : World) : Prop := e = .returned (rdV zs).val ∧ Off [sb] w w'
theorem zero_rp (w : World) : Off [] w (w.alloc (.cells #[.int .i64 0, .bool false, .int .i64 0, .int .i64 0, .int .i64 0, .int .i64 0] 82)) := (Off.refl _ _).alloc _
theorem rdr_ret {w wf : World} {sb : Nat} {zs : List Nat} {E a b c d : Int} {G : Bool} (tmps : Array Value) (hb : BlkL wf w.heap.size [.int .i64 E, .bool G, .int .i64 a, .int .i64 b, .int .i64 c, .int .i64 d]) (hv : rdV zs = ⟨E, G, a, b, c, d⟩) (t2 : tmps[2]? = some (.pointer (some ⟨w.heap.size, 0, none⟩)))
    (ho : Off [sb] w wf) : bodyPost Try.prog Try.f102 (RrE w sb zs) Exit.ret { tmps := tmps, defers := [] } wf := by
  have c0 := hb.cell 0 _ rfl
  have c1 := hb.cell 1 _ rfl
  have c2 := hb.cell 2 _ rfl
  have c3 := hb.cell 3 _ rfl
  have c4 := hb.cell 4 _ rfl
  have c5 := hb.cell 5 _ rfl
  exact bodyPost_ret (v := .agg #[.int .i64 E, .bool G, .int .i64 a, .int .i64 b, .int .i64 c, .int .i64 d]) (by simp [results, Try.results102, go_sem, t2, c0, c1, c2, c3, c4, c5]) rfl ⟨by rw [hv], ho⟩
set_option maxHeartbeats 3200000 in
theorem rdReply_ok (w : World) (B sb : Nat) (A0 : Option Addr) (n c0 : Nat) (zs : List Nat) (h : RdS w B sb A0 n c0 zs) (hn : 34 ≤ n) : Calls Try.prog 102 #[.pointer (some ⟨sb, 0, none⟩)] w (RrE w sb zs) := by
  have hl := h.arg.len
  have hz : RdS (w.alloc (.cells #[.int .i64 0, .bool false, .int .i64 0, .int .i64 0, .int .i64 0, .int .i64 0] 82)) B sb A0 n c0 zs := h.below ((Below.refl _ _).alloc (Nat.le_refl _) _)
  have HS0 := Lib.hid hz
  have HF0 : Hid (Off [sb] (w.alloc (.cells #[.int .i64 0, .bool false, .int .i64 0, .int .i64 0, .int .i64 0, .int .i64 0] 82)) (w.alloc (.cells #[.int .i64 0, .bool false, .int .i64 0, .int .i64 0, .int .i64 0, .int .i64 0] 82))) := Lib.hid (Off.refl _ _)
  have HWW : Hid (w.heap.size ≠ sb) := Lib.hid (by have := h.blk.lt; omega)
  have HBK : Hid (BlkL (w.alloc (.cells #[.int .i64 0, .bool false, .int .i64 0, .int .i64 0, .int .i64 0, .int .i64 0] 82)) w.heap.size [.int .i64 0, .bool false, .int .i64 0, .int .i64 0, .int .i64 0, .int .i64 0]) := Lib.hid (BlkL.new w [.int .i64 0, .bool false, .int .i64 0, .int .i64 0, .int .i64 0, .int .i64 0] _)
  have HWA : Hid (Off [sb] w (w.alloc (.cells #[.int .i64 0, .bool false, .int .i64 0, .int .i64 0, .int .i64 0, .int .i64 0] 82))) := Lib.hid ((Off.refl _ _).alloc _)
  obtain ⟨r0, hr0⟩ : ∃ r, zs.getD 0 0 = r := ⟨_, rfl⟩
  have HR0 := Lib.hid hr0
  obtain ⟨r1, hr1⟩ : ∃ r, (zs.drop 1).getD 0 0 = r := ⟨_, rfl⟩
  have HR1 := Lib.hid hr1
  obtain ⟨r2, hr2⟩ : ∃ r, Tk.numV ((((zs.drop 1).drop 1)).take 8) = r := ⟨_, rfl⟩
  have HR2 := Lib.hid hr2
  obtain ⟨r3, hr3⟩ : ∃ r, Tk.numV (((((zs.drop 1).drop 1).drop 8)).take 8) = r := ⟨_, rfl⟩
  have HR3 := Lib.hid hr3
  obtain ⟨r4, hr4⟩ : ∃ r, Tk.numV ((((((zs.drop 1).drop 1).drop 8).drop 8)).take 8) = r := ⟨_, rfl⟩
  have HR4 := Lib.hid hr4
  obtain ⟨r5, hr5⟩ : ∃ r, Tk.numV (((((((zs.drop 1).drop 1).drop 8).drop 8).drop 8)).take 8) = r := ⟨_, rfl⟩
  have HR5 := Lib.hid hr5
  have hb0 : r0 < 256 := by rw [← hr0]; exact h.arg.lt 0
  have d0 : IntKind.i64.wrap (r0 : Int) = (r0 : Int) := IntWalk.i64_in _ (by omega)
  obtain ⟨y2, e2⟩ : ∃ y, IntKind.i64.wrap (r2 : Int) = y := ⟨_, rfl⟩
  obtain ⟨y3, e3⟩ : ∃ y, IntKind.i64.wrap (r3 : Int) = y := ⟨_, rfl⟩
  obtain ⟨y4, e4⟩ : ∃ y, IntKind.i64.wrap (r4 : Int) = y := ⟨_, rfl⟩
  obtain ⟨y5, e5⟩ : ∃ y, IntKind.i64.wrap (r5 : Int) = y := ⟨_, rfl⟩
  obtain ⟨bb, eb⟩ : ∃ y : Bool, ((r1 : Int) == 1) = y := ⟨_, rfl⟩
  have HV : Hid (rdV zs = ⟨(r0 : Int), bb, y2, y3, y4, y5⟩) := by
    refine Lib.hid ?_
    rw [← e2, ← e3, ← e4, ← e5, ← eb, ← hr0, ← hr1, ← hr2, ← hr3, ← hr4, ← hr5]
    simp only [rdV, n8, List.drop_drop, RpV.mk.injEq, and_true, true_and]
    rw [show (List.drop 1 zs).getD 0 0 = zs.getD 1 0 by simp [List.getD_eq_getElem?_getD]]
    rw [Bool.eq_iff_iff]; simp; omega
  have g2 : wrap64 (r2 : Int) = y2 := by rw [← e2]; simp [IntKind.wrap_i64, wrap64]
  have g3 : wrap64 (r3 : Int) = y3 := by rw [← e3]; simp [IntKind.wrap_i64, wrap64]
  have g4 : wrap64 (r4 : Int) = y4 := by rw [← e4]; simp [IntKind.wrap_i64, wrap64]
  have g5 : wrap64 (r5 : Int) = y5 := by rw [← e5]; simp [IntKind.wrap_i64, wrap64]
  clear hz hl hr0 hr1 hr2 hr3 hr4 hr5 h
  go_enter Try.func102, Try.ntmps102
  have HN0 := Lib.hid (num1 _ B sb r0 A0 (n) c0 _ HS0.out HR0.out (by omega))
  go_wp2_with fail
  with_reducible refine (HN0.out).mono ?_
  rintro e w1 ⟨A1, c1, rfl, hs1, hf1⟩
  have HS1 := Lib.hid hs1
  have HF1 := Lib.hid (HF0.out.trans hf1)
  clear hs1 hf1 HN0
  have HN1 := Lib.hid (num1 w1 B sb r1 A1 (n - 1) c1 _ HS1.out HR1.out (by omega))
  go_wp2_with fail
  with_reducible refine (HN1.out).mono ?_
  rintro e w2 ⟨A2, c2, rfl, hs2, hf2⟩
  have HS2 := Lib.hid hs2
  have HF2 := Lib.hid (HF1.out.trans hf2)
  clear hs2 hf2 HN1
  have HN2 := Lib.hid (num8 w2 B sb r2 A2 (n - 1 - 1) c2 _ HS2.out HR2.out (by omega))
  go_wp2_with fail
  with_reducible refine (HN2.out).mono ?_
  rintro e w3 ⟨A3, c3, rfl, hs3, hf3⟩
  have HS3 := Lib.hid hs3
  have HF3 := Lib.hid (HF2.out.trans hf3)
  clear hs3 hf3 HN2
  have HN3 := Lib.hid (num8 w3 B sb r3 A3 (n - 1 - 1 - 8) c3 _ HS3.out HR3.out (by omega))
  go_wp2_with fail
  with_reducible refine (HN3.out).mono ?_
  rintro e w4 ⟨A4, c4, rfl, hs4, hf4⟩
  have HS4 := Lib.hid hs4
  have HF4 := Lib.hid (HF3.out.trans hf4)
  clear hs4 hf4 HN3
  have HN4 := Lib.hid (num8 w4 B sb r4 A4 (n - 1 - 1 - 8 - 8) c4 _ HS4.out HR4.out (by omega))
  go_wp2_with fail
  with_reducible refine (HN4.out).mono ?_
  rintro e w5 ⟨A5, c5, rfl, hs5, hf5⟩
  have HS5 := Lib.hid hs5
  have HF5 := Lib.hid (HF4.out.trans hf5)
  clear hs5 hf5 HN4
  have HN5 := Lib.hid (num8 w5 B sb r5 A5 (n - 1 - 1 - 8 - 8 - 8) c5 _ HS5.out HR5.out (by omega))
  go_wp2_with fail
  with_reducible refine (HN5.out).mono ?_
  rintro e w6 ⟨A6, c6, rfl, hs6, hf6⟩
  have HS6 := Lib.hid hs6
  have HF6 := Lib.hid (HF5.out.trans hf6)
  clear hs6 hf6 HN5
  have k6 := HBK.out.off HF6.out (by have := HWW.out; simp; omega)
  have K6 := Lib.hid k6
  have c60 := k6.cell 0 _ rfl
  have c61 := k6.cell 1 _ rfl
  have c62 := k6.cell 2 _ rfl
  have c63 := k6.cell 3 _ rfl
  have c64 := k6.cell 4 _ rfl
  have c65 := k6.cell 5 _ rfl
  have f60 := k6.froz 0 (by simp)
  have f61 := k6.froz 1 (by simp)
  have f62 := k6.froz 2 (by simp)
  have f63 := k6.froz 3 (by simp)
  have f64 := k6.froz 4 (by simp)
  have f65 := k6.froz 5 (by simp)
  have l6 := k6.lt
  have HWF : Hid (Off [sb] w w6) := Lib.hid (HWA.out.trans HF6.out)
  clear k6
  go_wp2
  exact rdr_ret _ (((((((K6.out.set 0 (.int .i64 (r0 : Int)) (by simp)).set 1 (.bool bb) (by simp)).set 2 (.int .i64 y2) (by simp)).set 3 (.int .i64 y3) (by simp)).set 4 (.int .i64 y4) (by simp)).set 5 (.int .i64 y5) (by simp))) HV.out rfl ((((((HWF.out.setNew (p := ⟨w.heap.size, 0, none⟩) (Nat.le_refl _) _).setNew (p := ⟨w.heap.size, 1, none⟩) (Nat.le_refl _) _).setNew (p := ⟨w.heap.size, 2, none⟩) (Nat.le_refl _) _).setNew (p := ⟨w.heap.size, 3, none⟩) (Nat.le_refl _) _).setNew (p := ⟨w.heap.size, 4, none⟩) (Nat.le_refl _) _).setNew (p := ⟨w.heap.size, 5, none⟩) (Nat.le_refl _) _)
set_option maxHeartbeats 1600000 in
theorem rdReply_no0 (w : World) (B sb : Nat) (A0 : Option Addr) (n c0 : Nat) (zs : List Nat) (h : RdS w B sb A0 n c0 zs) (hl0 : 0 ≤ n) (hn : n < 1) : Calls Try.prog 102 #[.pointer (some ⟨sb, 0, none⟩)] w (FellO w [sb]) := by
  have hl := h.arg.len
  have hz : RdS (w.alloc (.cells #[.int .i64 0, .bool false, .int .i64 0, .int .i64 0, .int .i64 0, .int .i64 0] 82)) B sb A0 n c0 zs := h.below ((Below.refl _ _).alloc (Nat.le_refl _) _)
  have HS0 := Lib.hid hz
  have HF0 : Hid (Off [sb] (w.alloc (.cells #[.int .i64 0, .bool false, .int .i64 0, .int .i64 0, .int .i64 0, .int .i64 0] 82)) (w.alloc (.cells #[.int .i64 0, .bool false, .int .i64 0, .int .i64 0, .int .i64 0, .int .i64 0] 82))) := Lib.hid (Off.refl _ _)
  have HWW : Hid (w.heap.size ≠ sb) := Lib.hid (by have := h.blk.lt; omega)
  have HBK : Hid (BlkL (w.alloc (.cells #[.int .i64 0, .bool false, .int .i64 0, .int .i64 0, .int .i64 0, .int .i64 0] 82)) w.heap.size [.int .i64 0, .bool false, .int .i64 0, .int .i64 0, .int .i64 0, .int .i64 0]) := Lib.hid (BlkL.new w [.int .i64 0, .bool false, .int .i64 0, .int .i64 0, .int .i64 0, .int .i64 0] _)
  have HWA : Hid (Off [sb] w (w.alloc (.cells #[.int .i64 0, .bool false, .int .i64 0, .int .i64 0, .int .i64 0, .int .i64 0] 82))) := Lib.hid ((Off.refl _ _).alloc _)
  clear hz hl h
  go_enter Try.func102, Try.ntmps102
  have HX := Lib.hid (num1_no _ B sb A0 (n) c0 _ HS0.out (by omega))
  go_wp2_with fail
  with_reducible refine (HX.out).mono ?_
  rintro e w' ⟨rfl, rfl⟩
  exact ⟨rfl, rfl, HWA.out.trans HF0.out⟩
set_option maxHeartbeats 1600000 in
theorem rdReply_no1 (w : World) (B sb : Nat) (A0 : Option Addr) (n c0 : Nat) (zs : List Nat) (h : RdS w B sb A0 n c0 zs) (hl0 : 1 ≤ n) (hn : n < 2) : Calls Try.prog 102 #[.pointer (some ⟨sb, 0, none⟩)] w (FellO w [sb]) := by
  have hl := h.arg.len
  have hz : RdS (w.alloc (.cells #[.int .i64 0, .bool false, .int .i64 0, .int .i64 0, .int .i64 0, .int .i64 0] 82)) B sb A0 n c0 zs := h.below ((Below.refl _ _).alloc (Nat.le_refl _) _)
  have HS0 := Lib.hid hz
  have HF0 : Hid (Off [sb] (w.alloc (.cells #[.int .i64 0, .bool false, .int .i64 0, .int .i64 0, .int .i64 0, .int .i64 0] 82)) (w.alloc (.cells #[.int .i64 0, .bool false, .int .i64 0, .int .i64 0, .int .i64 0, .int .i64 0] 82))) := Lib.hid (Off.refl _ _)
  have HWW : Hid (w.heap.size ≠ sb) := Lib.hid (by have := h.blk.lt; omega)
  have HBK : Hid (BlkL (w.alloc (.cells #[.int .i64 0, .bool false, .int .i64 0, .int .i64 0, .int .i64 0, .int .i64 0] 82)) w.heap.size [.int .i64 0, .bool false, .int .i64 0, .int .i64 0, .int .i64 0, .int .i64 0]) := Lib.hid (BlkL.new w [.int .i64 0, .bool false, .int .i64 0, .int .i64 0, .int .i64 0, .int .i64 0] _)
  have HWA : Hid (Off [sb] w (w.alloc (.cells #[.int .i64 0, .bool false, .int .i64 0, .int .i64 0, .int .i64 0, .int .i64 0] 82))) := Lib.hid ((Off.refl _ _).alloc _)
  obtain ⟨r0, hr0⟩ : ∃ r, zs.getD 0 0 = r := ⟨_, rfl⟩
  have HR0 := Lib.hid hr0
  have hb0 : r0 < 256 := by rw [← hr0]; exact h.arg.lt 0
  have d0 : IntKind.i64.wrap (r0 : Int) = (r0 : Int) := IntWalk.i64_in _ (by omega)
  clear hz hl h
  go_enter Try.func102, Try.ntmps102
  have HN0 := Lib.hid (num1 _ B sb r0 A0 (n) c0 _ HS0.out HR0.out (by omega))
  go_wp2_with fail
  with_reducible refine (HN0.out).mono ?_
  rintro e w1 ⟨A1, c1, rfl, hs1, hf1⟩
  have HS1 := Lib.hid hs1
  have HF1 := Lib.hid (HF0.out.trans hf1)
  clear hs1 hf1 HN0
  have HX := Lib.hid (num1_no w1 B sb A1 (n - 1) c1 _ HS1.out (by omega))
  go_wp2_with fail
  with_reducible refine (HX.out).mono ?_
  rintro e w' ⟨rfl, rfl⟩
  exact ⟨rfl, rfl, HWA.out.trans HF1.out⟩
set_option maxHeartbeats 1600000 in
theorem rdReply_no2 (w : World) (B sb : Nat) (A0 : Option Addr) (n c0 : Nat) (zs : List Nat) (h : RdS w B sb A0 n c0 zs) (hl0 : 2 ≤ n) (hn : n < 10) : Calls Try.prog 102 #[.pointer (some ⟨sb, 0, none⟩)] w (FellO w [sb]) := by
  have hl := h.arg.len
  have hz : RdS (w.alloc (.cells #[.int .i64 0, .bool false, .int .i64 0, .int .i64 0, .int .i64 0, .int .i64 0] 82)) B sb A0 n c0 zs := h.below ((Below.refl _ _).alloc (Nat.le_refl _) _)
  have HS0 := Lib.hid hz
  have HF0 : Hid (Off [sb] (w.alloc (.cells #[.int .i64 0, .bool false, .int .i64 0, .int .i64 0, .int .i64 0, .int .i64 0] 82)) (w.alloc (.cells #[.int .i64 0, .bool false, .int .i64 0, .int .i64 0, .int .i64 0, .int .i64 0] 82))) := Lib.hid (Off.refl _ _)
  have HWW : Hid (w.heap.size ≠ sb) := Lib.hid (by have := h.blk.lt; omega)
  have HBK : Hid (BlkL (w.alloc (.cells #[.int .i64 0, .bool false, .int .i64 0, .int .i64 0, .int .i64 0, .int .i64 0] 82)) w.heap.size [.int .i64 0, .bool false, .int .i64 0, .int .i64 0, .int .i64 0, .int .i64 0]) := Lib.hid (BlkL.new w [.int .i64 0, .bool false, .int .i64 0, .int .i64 0, .int .i64 0, .int .i64 0] _)
  have HWA : Hid (Off [sb] w (w.alloc (.cells #[.int .i64 0, .bool false, .int .i64 0, .int .i64 0, .int .i64 0, .int .i64 0] 82))) := Lib.hid ((Off.refl _ _).alloc _)
  obtain ⟨r0, hr0⟩ : ∃ r, zs.getD 0 0 = r := ⟨_, rfl⟩
  have HR0 := Lib.hid hr0
  obtain ⟨r1, hr1⟩ : ∃ r, (zs.drop 1).getD 0 0 = r := ⟨_, rfl⟩
  have HR1 := Lib.hid hr1
  have hb0 : r0 < 256 := by rw [← hr0]; exact h.arg.lt 0
  have d0 : IntKind.i64.wrap (r0 : Int) = (r0 : Int) := IntWalk.i64_in _ (by omega)
  clear hz hl h
  go_enter Try.func102, Try.ntmps102
  have HN0 := Lib.hid (num1 _ B sb r0 A0 (n) c0 _ HS0.out HR0.out (by omega))
  go_wp2_with fail
  with_reducible refine (HN0.out).mono ?_
  rintro e w1 ⟨A1, c1, rfl, hs1, hf1⟩
  have HS1 := Lib.hid hs1
  have HF1 := Lib.hid (HF0.out.trans hf1)
  clear hs1 hf1 HN0
  have HN1 := Lib.hid (num1 w1 B sb r1 A1 (n - 1) c1 _ HS1.out HR1.out (by omega))
  go_wp2_with fail
  with_reducible refine (HN1.out).mono ?_
  rintro e w2 ⟨A2, c2, rfl, hs2, hf2⟩
  have HS2 := Lib.hid hs2
  have HF2 := Lib.hid (HF1.out.trans hf2)
  clear hs2 hf2 HN1
  have HX := Lib.hid (num8_no w2 B sb A2 (n - 1 - 1) c2 _ HS2.out (by omega))
  go_wp2_with fail
  with_reducible refine (HX.out).mono ?_
  rintro e w' ⟨rfl, rfl⟩
  exact ⟨rfl, rfl, HWA.out.trans HF2.out⟩
set_option maxHeartbeats 1600000 in
theorem rdReply_no3 (w : World) (B sb : Nat) (A0 : Option Addr) (n c0 : Nat) (zs : List Nat) (h : RdS w B sb A0 n c0 zs) (hl0 : 10 ≤ n) (hn : n < 18) : Calls Try.prog 102 #[.pointer (some ⟨sb, 0, none⟩)] w (FellO w [sb]) := by
  have hl := h.arg.len
  have hz : RdS (w.alloc (.cells #[.int .i64 0, .bool false, .int .i64 0, .int .i64 0, .int .i64 0, .int .i64 0] 82)) B sb A0 n c0 zs := h.below ((Below.refl _ _).alloc (Nat.le_refl _) _)
  have HS0 := Lib.hid hz
  have HF0 : Hid (Off [sb] (w.alloc (.cells #[.int .i64 0, .bool false, .int .i64 0, .int .i64 0, .int .i64 0, .int .i64 0] 82)) (w.alloc (.cells #[.int .i64 0, .bool false, .int .i64 0, .int .i64 0, .int .i64 0, .int .i64 0] 82))) := Lib.hid (Off.refl _ _)
  have HWW : Hid (w.heap.size ≠ sb) := Lib.hid (by have := h.blk.lt; omega)
  have HBK : Hid (BlkL (w.alloc (.cells #[.int .i64 0, .bool false, .int .i64 0, .int .i64 0, .int .i64 0, .int .i64 0] 82)) w.heap.size [.int .i64 0, .bool false, .int .i64 0, .int .i64 0, .int .i64 0, .int .i64 0]) := Lib.hid (BlkL.new w [.int .i64 0, .bool false, .int .i64 0, .int .i64 0, .int .i64 0, .int .i64 0] _)
  have HWA : Hid (Off [sb] w (w.alloc (.cells #[.int .i64 0, .bool false, .int .i64 0, .int .i64 0, .int .i64 0, .int .i64 0] 82))) := Lib.hid ((Off.refl _ _).alloc _)
  obtain ⟨r0, hr0⟩ : ∃ r, zs.getD 0 0 = r := ⟨_, rfl⟩
  have HR0 := Lib.hid hr0
  obtain ⟨r1, hr1⟩ : ∃ r, (zs.drop 1).getD 0 0 = r := ⟨_, rfl⟩
  have HR1 := Lib.hid hr1
  obtain ⟨r2, hr2⟩ : ∃ r, Tk.numV ((((zs.drop 1).drop 1)).take 8) = r := ⟨_, rfl⟩
  have HR2 := Lib.hid hr2
  have hb0 : r0 < 256 := by rw [← hr0]; exact h.arg.lt 0
  have d0 : IntKind.i64.wrap (r0 : Int) = (r0 : Int) := IntWalk.i64_in _ (by omega)
  clear hz hl h
  go_enter Try.func102, Try.ntmps102
  have HN0 := Lib.hid (num1 _ B sb r0 A0 (n) c0 _ HS0.out HR0.out (by omega))
  go_wp2_with fail
  with_reducible refine (HN0.out).mono ?_
  rintro e w1 ⟨A1, c1, rfl, hs1, hf1⟩
  have HS1 := Lib.hid hs1
  have HF1 := Lib.hid (HF0.out.trans hf1)
  clear hs1 hf1 HN0
  have HN1 := Lib.hid (num1 w1 B sb r1 A1 (n - 1) c1 _ HS1.out HR1.out (by omega))
  go_wp2_with fail
  with_reducible refine (HN1.out).mono ?_
  rintro e w2 ⟨A2, c2, rfl, hs2, hf2⟩
  have HS2 := Lib.hid hs2
  have HF2 := Lib.hid (HF1.out.trans hf2)
  clear hs2 hf2 HN1
  have HN2 := Lib.hid (num8 w2 B sb r2 A2 (n - 1 - 1) c2 _ HS2.out HR2.out (by omega))
  go_wp2_with fail
  with_reducible refine (HN2.out).mono ?_
  rintro e w3 ⟨A3, c3, rfl, hs3, hf3⟩
  have HS3 := Lib.hid hs3
  have HF3 := Lib.hid (HF2.out.trans hf3)
  clear hs3 hf3 HN2
  have HX := Lib.hid (num8_no w3 B sb A3 (n - 1 - 1 - 8) c3 _ HS3.out (by omega))
  go_wp2_with fail
  with_reducible refine (HX.out).mono ?_
  rintro e w' ⟨rfl, rfl⟩
  exact ⟨rfl, rfl, HWA.out.trans HF3.out⟩
set_option maxHeartbeats 1600000 in
theorem rdReply_no4 (w : World) (B sb : Nat) (A0 : Option Addr) (n c0 : Nat) (zs : List Nat) (h : RdS w B sb A0 n c0 zs) (hl0 : 18 ≤ n) (hn : n < 26) : Calls Try.prog 102 #[.pointer (some ⟨sb, 0, none⟩)] w (FellO w [sb]) := by
  have hl := h.arg.len
  have hz : RdS (w.alloc (.cells #[.int .i64 0, .bool false, .int .i64 0, .int .i64 0, .int .i64 0, .int .i64 0] 82)) B sb A0 n c0 zs := h.below ((Below.refl _ _).alloc (Nat.le_refl _) _)
  have HS0 := Lib.hid hz
  have HF0 : Hid (Off [sb] (w.alloc (.cells #[.int .i64 0, .bool false, .int .i64 0, .int .i64 0, .int .i64 0, .int .i64 0] 82)) (w.alloc (.cells #[.int .i64 0, .bool false, .int .i64 0, .int .i64 0, .int .i64 0, .int .i64 0] 82))) := Lib.hid (Off.refl _ _)
  have HWW : Hid (w.heap.size ≠ sb) := Lib.hid (by have := h.blk.lt; omega)
  have HBK : Hid (BlkL (w.alloc (.cells #[.int .i64 0, .bool false, .int .i64 0, .int .i64 0, .int .i64 0, .int .i64 0] 82)) w.heap.size [.int .i64 0, .bool false, .int .i64 0, .int .i64 0, .int .i64 0, .int .i64 0]) := Lib.hid (BlkL.new w [.int .i64 0, .bool false, .int .i64 0, .int .i64 0, .int .i64 0, .int .i64 0] _)
  have HWA : Hid (Off [sb] w (w.alloc (.cells #[.int .i64 0, .bool false, .int .i64 0, .int .i64 0, .int .i64 0, .int .i64 0] 82))) := Lib.hid ((Off.refl _ _).alloc _)
  obtain ⟨r0, hr0⟩ : ∃ r, zs.getD 0 0 = r := ⟨_, rfl⟩
  have HR0 := Lib.hid hr0
  obtain ⟨r1, hr1⟩ : ∃ r, (zs.drop 1).getD 0 0 = r := ⟨_, rfl⟩
  have HR1 := Lib.hid hr1
  obtain ⟨r2, hr2⟩ : ∃ r, Tk.numV ((((zs.drop 1).drop 1)).take 8) = r := ⟨_, rfl⟩
  have HR2 := Lib.hid hr2
  obtain ⟨r3, hr3⟩ : ∃ r, Tk.numV (((((zs.drop 1).drop 1).drop 8)).take 8) = r := ⟨_, rfl⟩
  have HR3 := Lib.hid hr3
  have hb0 : r0 < 256 := by rw [← hr0]; exact h.arg.lt 0
  have d0 : IntKind.i64.wrap (r0 : Int) = (r0 : Int) := IntWalk.i64_in _ (by omega)
  clear hz hl h
  go_enter Try.func102, Try.ntmps102
  have HN0 := Lib.hid (num1 _ B sb r0 A0 (n) c0 _ HS0.out HR0.out (by omega))
  go_wp2_with fail
  with_reducible refine (HN0.out).mono ?_
  rintro e w1 ⟨A1, c1, rfl, hs1, hf1⟩
  have HS1 := Lib.hid hs1
  have HF1 := Lib.hid (HF0.out.trans hf1)
  clear hs1 hf1 HN0
  have HN1 := Lib.hid (num1 w1 B sb r1 A1 (n - 1) c1 _ HS1.out HR1.out (by omega))
  go_wp2_with fail
  with_reducible refine (HN1.out).mono ?_
  rintro e w2 ⟨A2, c2, rfl, hs2, hf2⟩
  have HS2 := Lib.hid hs2
  have HF2 := Lib.hid (HF1.out.trans hf2)
  clear hs2 hf2 HN1
  have HN2 := Lib.hid (num8 w2 B sb r2 A2 (n - 1 - 1) c2 _ HS2.out HR2.out (by omega))
  go_wp2_with fail
  with_reducible refine (HN2.out).mono ?_
  rintro e w3 ⟨A3, c3, rfl, hs3, hf3⟩
  have HS3 := Lib.hid hs3
  have HF3 := Lib.hid (HF2.out.trans hf3)
  clear hs3 hf3 HN2
  have HN3 := Lib.hid (num8 w3 B sb r3 A3 (n - 1 - 1 - 8) c3 _ HS3.out HR3.out (by omega))
  go_wp2_with fail
  with_reducible refine (HN3.out).mono ?_
  rintro e w4 ⟨A4, c4, rfl, hs4, hf4⟩
  have HS4 := Lib.hid hs4
  have HF4 := Lib.hid (HF3.out.trans hf4)
  clear hs4 hf4 HN3
  have HX := Lib.hid (num8_no w4 B sb A4 (n - 1 - 1 - 8 - 8) c4 _ HS4.out (by omega))
  go_wp2_with fail
  with_reducible refine (HX.out).mono ?_
  rintro e w' ⟨rfl, rfl⟩
  exact ⟨rfl, rfl, HWA.out.trans HF4.out⟩
set_option maxHeartbeats 1600000 in
theorem rdReply_no5 (w : World) (B sb : Nat) (A0 : Option Addr) (n c0 : Nat) (zs : List Nat) (h : RdS w B sb A0 n c0 zs) (hl0 : 26 ≤ n) (hn : n < 34) : Calls Try.prog 102 #[.pointer (some ⟨sb, 0, none⟩)] w (FellO w [sb]) := by
  have hl := h.arg.len
  have hz : RdS (w.alloc (.cells #[.int .i64 0, .bool false, .int .i64 0, .int .i64 0, .int .i64 0, .int .i64 0] 82)) B sb A0 n c0 zs := h.below ((Below.refl _ _).alloc (Nat.le_refl _) _)
  have HS0 := Lib.hid hz
  have HF0 : Hid (Off [sb] (w.alloc (.cells #[.int .i64 0, .bool false, .int .i64 0, .int .i64 0, .int .i64 0, .int .i64 0] 82)) (w.alloc (.cells #[.int .i64 0, .bool false, .int .i64 0, .int .i64 0, .int .i64 0, .int .i64 0] 82))) := Lib.hid (Off.refl _ _)
  have HWW : Hid (w.heap.size ≠ sb) := Lib.hid (by have := h.blk.lt; omega)
  have HBK : Hid (BlkL (w.alloc (.cells #[.int .i64 0, .bool false, .int .i64 0, .int .i64 0, .int .i64 0, .int .i64 0] 82)) w.heap.size [.int .i64 0, .bool false, .int .i64 0, .int .i64 0, .int .i64 0, .int .i64 0]) := Lib.hid (BlkL.new w [.int .i64 0, .bool false, .int .i64 0, .int .i64 0, .int .i64 0, .int .i64 0] _)
  have HWA : Hid (Off [sb] w (w.alloc (.cells #[.int .i64 0, .bool false, .int .i64 0, .int .i64 0, .int .i64 0, .int .i64 0] 82))) := Lib.hid ((Off.refl _ _).alloc _)
  obtain ⟨r0, hr0⟩ : ∃ r, zs.getD 0 0 = r := ⟨_, rfl⟩
  have HR0 := Lib.hid hr0
  obtain ⟨r1, hr1⟩ : ∃ r, (zs.drop 1).getD 0 0 = r := ⟨_, rfl⟩
  have HR1 := Lib.hid hr1
  obtain ⟨r2, hr2⟩ : ∃ r, Tk.numV ((((zs.drop 1).drop 1)).take 8) = r := ⟨_, rfl⟩
  have HR2 := Lib.hid hr2
  obtain ⟨r3, hr3⟩ : ∃ r, Tk.numV (((((zs.drop 1).drop 1).drop 8)).take 8) = r := ⟨_, rfl⟩
  have HR3 := Lib.hid hr3
  obtain ⟨r4, hr4⟩ : ∃ r, Tk.numV ((((((zs.drop 1).drop 1).drop 8).drop 8)).take 8) = r := ⟨_, rfl⟩
  have HR4 := Lib.hid hr4
  have hb0 : r0 < 256 := by rw [← hr0]; exact h.arg.lt 0
  have d0 : IntKind.i64.wrap (r0 : Int) = (r0 : Int) := IntWalk.i64_in _ (by omega)
  clear hz hl h
  go_enter Try.func102, Try.ntmps102
  have HN0 := Lib.hid (num1 _ B sb r0 A0 (n) c0 _ HS0.out HR0.out (by omega))
  go_wp2_with fail
  with_reducible refine (HN0.out).mono ?_
  rintro e w1 ⟨A1, c1, rfl, hs1, hf1⟩
  have HS1 := Lib.hid hs1
  have HF1 := Lib.hid (HF0.out.trans hf1)
  clear hs1 hf1 HN0
  have HN1 := Lib.hid (num1 w1 B sb r1 A1 (n - 1) c1 _ HS1.out HR1.out (by omega))
  go_wp2_with fail
  with_reducible refine (HN1.out).mono ?_
  rintro e w2 ⟨A2, c2, rfl, hs2, hf2⟩
  have HS2 := Lib.hid hs2
  have HF2 := Lib.hid (HF1.out.trans hf2)
  clear hs2 hf2 HN1
  have HN2 := Lib.hid (num8 w2 B sb r2 A2 (n - 1 - 1) c2 _ HS2.out HR2.out (by omega))
  go_wp2_with fail
  with_reducible refine (HN2.out).mono ?_
  rintro e w3 ⟨A3, c3, rfl, hs3, hf3⟩
  have HS3 := Lib.hid hs3
  have HF3 := Lib.hid (HF2.out.trans hf3)
  clear hs3 hf3 HN2
  have HN3 := Lib.hid (num8 w3 B sb r3 A3 (n - 1 - 1 - 8) c3 _ HS3.out HR3.out (by omega))
  go_wp2_with fail
  with_reducible refine (HN3.out).mono ?_
  rintro e w4 ⟨A4, c4, rfl, hs4, hf4⟩
  have HS4 := Lib.hid hs4
  have HF4 := Lib.hid (HF3.out.trans hf4)
  clear hs4 hf4 HN3
  have HN4 := Lib.hid (num8 w4 B sb r4 A4 (n - 1 - 1 - 8 - 8) c4 _ HS4.out HR4.out (by omega))
  go_wp2_with fail
  with_reducible refine (HN4.out).mono ?_
  rintro e w5 ⟨A5, c5, rfl, hs5, hf5⟩
  have HS5 := Lib.hid hs5
  have HF5 := Lib.hid (HF4.out.trans hf5)
  clear hs5 hf5 HN4
  have HX := Lib.hid (num8_no w5 B sb A5 (n - 1 - 1 - 8 - 8 - 8) c5 _ HS5.out (by omega))
  go_wp2_with fail
  with_reducible refine (HX.out).mono ?_
  rintro e w' ⟨rfl, rfl⟩
  exact ⟨rfl, rfl, HWA.out.trans HF5.out⟩
theorem rdReply_no (w : World) (B sb : Nat) (A0 : Option Addr) (n c0 : Nat) (zs : List Nat) (h : RdS w B sb A0 n c0 zs) (hn : n < 34) : Calls Try.prog 102 #[.pointer (some ⟨sb, 0, none⟩)] w (FellO w [sb]) := by
  rcases (by omega : n < 1 ∨ (1 ≤ n ∧ n < 2) ∨ (2 ≤ n ∧ n < 10) ∨ (10 ≤ n ∧ n < 18) ∨ (18 ≤ n ∧ n < 26) ∨ 26 ≤ n) with g | g | g | g | g | g
  · exact rdReply_no0 w B sb A0 n c0 zs h (by omega) g
  · exact rdReply_no1 w B sb A0 n c0 zs h g.1 g.2
  · exact rdReply_no2 w B sb A0 n c0 zs h g.1 g.2
  · exact rdReply_no3 w B sb A0 n c0 zs h g.1 g.2
  · exact rdReply_no4 w B sb A0 n c0 zs h g.1 g.2
  · exact rdReply_no5 w B sb A0 n c0 zs h g hn
end Go.Proofs.Ytndgladfcogiiaa
