/- Contracts of the small functions of cell and book. -/
import Derived.Test.YtnkecjjfbllgdaaBkM
namespace Go.Proofs.Ytnkecjjfbllgdaa
open Go.RowKit
set_option maxRecDepth 100000

section
variable {w w' : World} {b : Nat}
theorem BlkL.put6 {x0 x1 x2 x3 x4 x5 : Value} (h : BlkL w b [x0, x1, x2, x3, x4, x5]) (v0 v1 v2 v3 v4 v5 : Value) :
    BlkL ((((((w.setCell ⟨b, 0, none⟩ v0).setCell ⟨b, 1, none⟩ v1).setCell ⟨b, 2, none⟩ v2).setCell ⟨b, 3, none⟩ v3).setCell ⟨b, 4, none⟩ v4).setCell ⟨b, 5, none⟩ v5) b [v0, v1, v2, v3, v4, v5] := by
  have := (((((h.set 0 v0 (by simp)).set 1 v1 (by simp)).set 2 v2 (by simp)).set 3 v3 (by simp)).set 4 v4 (by simp)).set 5 v5 (by simp)
  simpa only [List.set_cons_zero, List.set_cons_succ] using this
theorem below_put6 {B : Nat} {a w : World} (h : Below B a w) {b : Nat} (hb : B ≤ b) (v0 v1 v2 v3 v4 v5 : Value) :
    Below B a ((((((w.setCell ⟨b, 0, none⟩ v0).setCell ⟨b, 1, none⟩ v1).setCell ⟨b, 2, none⟩ v2).setCell ⟨b, 3, none⟩ v3).setCell ⟨b, 4, none⟩ v4).setCell ⟨b, 5, none⟩ v5) :=
  (((((h.setCell (p := ⟨b, 0, none⟩) hb v0).setCell (p := ⟨b, 1, none⟩) hb v1).setCell (p := ⟨b, 2, none⟩) hb v2).setCell (p := ⟨b, 3, none⟩) hb v3).setCell (p := ⟨b, 4, none⟩) hb v4).setCell (p := ⟨b, 5, none⟩) hb v5
end

set_option maxHeartbeats 400000 in
theorem bTick_any (w : World) (a : Int) : Calls Try.prog 47 #[.int .i64 a] w fun e w' => e = .returned (.bool (isTick a)) ∧ w = w' := by
  have hv : isTick a = (decide (0 ≤ a) && decide (a ≤ 4611686018427387903)) := by unfold isTick; simp
  rw [hv]
  clear hv
  rcases hp : decide (0 ≤ a) with _ | _
  all_goals
    go_enter Try.func47, Try.ntmps47
    go_wp2
    go_ret
    exact ⟨ret_bool (by simp), rfl⟩
set_option maxHeartbeats 400000 in
theorem bSerial_any (w : World) (p : Int) : Calls Try.prog 49 #[.int .i64 p] w fun e w' => e = .returned (.bool (decide (1 ≤ p) && decide (p ≤ 4611686018427387903))) ∧ w = w' := by
  rcases hp : decide (1 ≤ p) with _ | _
  all_goals
    go_enter Try.func49, Try.ntmps49
    go_wp2
    go_ret
    exact ⟨ret_bool (by simp), rfl⟩
section
variable {w : World} {b b' : Nat} {x0 x1 x2 x3 x4 x5 y0 y1 : Value}
/-- A reply and a cell are stored: what both blocks hold then. -/
theorem out8 (H : BlkL w b [x0, x1, x2, x3, x4, x5]) (H' : BlkL w b' [y0, y1]) (hne : b ≠ b') (v0 v1 v2 v3 v4 v5 u0 u1 : Value) :
    BlkL ((((((((w.setCell ⟨b, 0, none⟩ v0).setCell ⟨b, 1, none⟩ v1).setCell ⟨b, 2, none⟩ v2).setCell ⟨b, 3, none⟩ v3).setCell ⟨b, 4, none⟩ v4).setCell ⟨b, 5, none⟩ v5).setCell ⟨b', 0, none⟩ u0).setCell ⟨b', 1, none⟩ u1) b [v0, v1, v2, v3, v4, v5] ∧
    BlkL ((((((((w.setCell ⟨b, 0, none⟩ v0).setCell ⟨b, 1, none⟩ v1).setCell ⟨b, 2, none⟩ v2).setCell ⟨b, 3, none⟩ v3).setCell ⟨b, 4, none⟩ v4).setCell ⟨b, 5, none⟩ v5).setCell ⟨b', 0, none⟩ u0).setCell ⟨b', 1, none⟩ u1) b' [u0, u1] :=
  ⟨((H.put6 v0 v1 v2 v3 v4 v5).other b' 0 u0 (Ne.symm hne)).other b' 1 u1 (Ne.symm hne),
   ((((((H'.other b 0 v0 hne).other b 1 v1 hne).other b 2 v2 hne).other b 3 v3 hne).other b 4 v4 hne).other b 5 v5 hne).put2 u0 u1⟩
theorem below_out8 {B : Nat} {a : World} (h : Below B a w) (hb : B ≤ b) (hb' : B ≤ b') (v0 v1 v2 v3 v4 v5 u0 u1 : Value) :
    Below B a ((((((((w.setCell ⟨b, 0, none⟩ v0).setCell ⟨b, 1, none⟩ v1).setCell ⟨b, 2, none⟩ v2).setCell ⟨b, 3, none⟩ v3).setCell ⟨b, 4, none⟩ v4).setCell ⟨b, 5, none⟩ v5).setCell ⟨b', 0, none⟩ u0).setCell ⟨b', 1, none⟩ u1) :=
  below_put2 (below_put6 h hb v0 v1 v2 v3 v4 v5) hb' u0 u1
end
theorem below_a1 (w : World) (x : Obj) : Below w.heap.size w (w.alloc x) := (Below.refl _ _).alloc (Nat.le_refl _) _
theorem below_a2 (w : World) (x y : Obj) : Below w.heap.size w ((w.alloc x).alloc y) := (below_a1 w x).alloc (by simp) _
theorem below_a3 (w : World) (x y z : Obj) : Below w.heap.size w (((w.alloc x).alloc y).alloc z) := (below_a2 w x y).alloc (by simp; omega) _
theorem below_a4 (w : World) (x y z u : Obj) : Below w.heap.size w ((((w.alloc x).alloc y).alloc z).alloc u) := (below_a3 w x y z).alloc (by simp; omega) _
theorem below_a5 (w : World) (x y z u v : Obj) : Below w.heap.size w (((((w.alloc x).alloc y).alloc z).alloc u).alloc v) := (below_a4 w x y z u).alloc (by simp; omega) _
theorem keep2 {w : World} {a b j : Nat} {v v' x : Value} (hne : a ≠ b) (h : w.cell? ⟨a, j, none⟩ = some x) : ((w.setCell ⟨b, 0, none⟩ v).setCell ⟨b, 1, none⟩ v').cell? ⟨a, j, none⟩ = some x := by
  rw [World.cell?_setCell_other _ _ _ _ (by simp), World.cell?_setCell_other _ _ _ _ (by simp)]
  exact h
set_option maxHeartbeats 400000 in
theorem sema_any (w : World) (tat T Tau p : Int) (kd : Nat) (A : Option Addr) (n c : Nat) :
    Calls Try.prog 65 #[.agg #[.int .i64 tat, .slice A n c], .agg #[.int .u8 (kd : Nat), .int .i64 T, .int .i64 Tau, .int .i64 p]] w (ValEnd w (.agg #[.int .i64 p, .slice A n c])) := by
  go_enter Try.func65, Try.ntmps65
  go_wp2
  exact bodyPost_ret (v := .agg #[.int .i64 p, .slice A n c]) (by simp [results, Try.results65, go_sem]) rfl ⟨rfl, below_a3 _ _ _ _⟩
set_option maxHeartbeats 400000 in
theorem cFrom_any (w : World) (tat : Int) (A : Option Addr) (n c : Nat) :
    Calls Try.prog 62 #[.agg #[.int .i64 tat, .slice A n c]] w (ValEnd w (.int .i64 (if 0 < n then 4611686018427387904 else tat))) := by
  rcases Nat.eq_zero_or_pos n with rfl | hn
  · go_enter Try.func62, Try.ntmps62
    go_wp2
    go_ret
    exact ⟨by simp, below_a1 _ _⟩
  · rw [if_pos hn]
    go_enter Try.func62, Try.ntmps62
    go_wp2
    go_ret
    exact ⟨by simp, below_a1 _ _⟩
set_option maxHeartbeats 400000 in
theorem cIdle_any (w : World) (tat now : Int) (A : Option Addr) (n c : Nat) (hn : now ≤ 4611686018427387903) :
    Calls Try.prog 52 #[.agg #[.int .i64 tat, .slice A n c], .int .i64 now] w (ValEnd w (.bool (decide (tat ≤ now) && decide (n = 0)))) := by
  have HF := Lib.hid (fun w => cFrom_any w tat A n c)
  have hr : decide ((if 0 < n then 4611686018427387904 else tat) ≤ now) = (decide (tat ≤ now) && decide (n = 0)) := by
    rcases Nat.eq_zero_or_pos n with rfl | h
    · simp
    · rw [if_pos h, decide_eq_false (by omega), decide_eq_false (show ¬ n = 0 by omega), Bool.and_false]
  rw [← hr]
  generalize (if 0 < n then 4611686018427387904 else tat) = x at HF ⊢
  clear hr hn
  go_enter Try.func52, Try.ntmps52
  go_wp2_with fail
  with_reducible refine (HF.out _).mono ?_
  rintro e w1 ⟨rfl, hb⟩
  have HB1 := Lib.hid ((below_a1 w (.cells #[.int .i64 tat, .slice A n c] 83)).trans (hb.mono (by simp)))
  clear hb
  go_wp2
  go_ret
  exact ⟨rfl, HB1.out⟩
set_option maxHeartbeats 800000 in
theorem cfree_any (w : World) (B : Nat) (A : Option Addr) (n c : Nat) (xs : List Int) (p : Int) (h : ArgI w B A n c xs) (hB : B ≤ w.heap.size) (hs : semB p xs = true) :
    Calls Try.prog 76 #[.agg #[.int .i64 p, .slice A n c]] w (ValEnd w (.int .i64 (p - n))) := by
  have HF := Lib.hid (permFree_any (w.alloc (.cells #[.int .i64 p, .slice A n c] 93)) w.heap.size A n c xs p ((h.more hB).below (below_a1 w _)) (by simp))
  rw [if_pos hs, semV_ok hs] at HF
  clear h hs
  go_enter Try.func76, Try.ntmps76
  go_wp2_with fail
  with_reducible refine (HF.out).mono ?_
  rintro e w1 ⟨rfl, hb⟩
  have HB1 := Lib.hid ((below_a1 w (.cells #[.int .i64 p, .slice A n c] 93)).trans (hb.mono (by simp)))
  clear hb
  go_wp2
  go_ret
  exact ⟨rfl, HB1.out⟩
set_option maxHeartbeats 800000 in
theorem cFreeM_any (w : World) (B : Nat) (tat T Tau p : Int) (kd : Nat) (A : Option Addr) (n c : Nat) (xs : List Int) (h : ArgI w B A n c xs) (hB : B ≤ w.heap.size) (hs : semB p xs = true) :
    Calls Try.prog 68 #[.agg #[.int .i64 tat, .slice A n c], .agg #[.int .u8 (kd : Nat), .int .i64 T, .int .i64 Tau, .int .i64 p]] w (ValEnd w (.int .i64 (p - n))) := by
  have HS := Lib.hid (fun w => sema_any w tat T Tau p kd A n c)
  have HF := Lib.hid (fun W (hw : Below w.heap.size w W) => cfree_any W w.heap.size A n c xs p ((h.more hB).below hw) hw.size hs)
  clear h hs
  go_enter Try.func68, Try.ntmps68
  go_wp2_with fail
  with_reducible refine (HS.out _).mono ?_
  rintro e w1 ⟨rfl, hb⟩
  have HB1 := Lib.hid ((below_a2 w (.cells #[.int .i64 tat, .slice A n c] 83) (.cells #[.int .u8 (kd : Nat), .int .i64 T, .int .i64 Tau, .int .i64 p] 52)).trans (hb.mono (by simp; omega)))
  clear hb
  go_wp2_with fail
  with_reducible refine (HF.out _ HB1.out).mono ?_
  rintro e w2 ⟨rfl, hb⟩
  have HB2 := Lib.hid (HB1.out.trans (hb.mono HB1.out.size))
  clear hb HB1
  go_wp2
  go_ret
  exact ⟨rfl, HB2.out⟩
set_option maxHeartbeats 800000 in
theorem cheld_bad (w : World) (A : Option Addr) (n c : Nat) (p s f : Int) (hf : f ≠ 0) :
    Calls Try.prog 66 #[.agg #[.int .i64 p, .slice A n c], .int .i64 s, .int .i64 f] w (ValEnd w (.tuple #[repV (RepM.err f), .agg #[.int .i64 0, .slice none 0 0], .bool false])) := by
  have hz : (f != 0) = true := by simpa using hf
  unfold RepM.err
  go_enter Try.func66, Try.ntmps66
  go_wp2
  exact bodyPost_ret (v := .tuple #[.agg #[.int .i64 f, .bool false, .int .i64 0, .int .i64 0, .int .i64 0, .int .i64 0], .agg #[.int .i64 0, .slice none 0 0], .bool false]) (by simp [results, Try.results66, go_sem]) rfl ⟨rfl, below_a3 _ _ _ _⟩
set_option maxHeartbeats 1600000 in
theorem cheld_ok (w : World) (B : Nat) (A : Option Addr) (n c : Nat) (xs : List Int) (p s : Int) (h : ArgI w B A n c xs) (hB : B ≤ w.heap.size) (hs : semB p xs = true) :
    Calls Try.prog 66 #[.agg #[.int .i64 p, .slice A n c], .int .i64 s, .int .i64 0] w (ValEnd w (.tuple #[repV ⟨0, true, p - n, 0, s, 0⟩, .agg #[.int .i64 0, .slice A n c], .bool true])) := by
  have HF := Lib.hid (fun W (hw : Below w.heap.size w W) => cfree_any W w.heap.size A n c xs p ((h.more hB).below hw) hw.size hs)
  clear h hs
  go_enter Try.func66, Try.ntmps66
  go_wp2_with fail
  with_reducible refine (HF.out _ (below_a3 _ _ _ _)).mono ?_
  rintro e w1 ⟨rfl, hb⟩
  have b0 := (((BlkL.new w [.int .i64 p, .slice A n c] 93).alloc _).alloc _).below hb
  have b1 := ((BlkL.new _ [.int .i64 0, .bool false, .int .i64 0, .int .i64 0, .int .i64 0, .int .i64 0] 42).alloc _).below hb
  have b2 := (BlkL.new _ [.int .i64 0, .slice none 0 0] 83).below hb
  simp only [World.size_alloc] at b0 b1 b2
  have HB1 := Lib.hid ((below_a3 w _ _ _).trans (hb.mono (by simp; omega)))
  clear hb
  have ca0 := b0.cell 0 _ rfl
  have ca1 := b0.cell 1 _ rfl
  have za := b0.lt
  have cb0 := b1.cell 0 _ rfl
  have cb1 := b1.cell 1 _ rfl
  have cb2 := b1.cell 2 _ rfl
  have cb3 := b1.cell 3 _ rfl
  have cb4 := b1.cell 4 _ rfl
  have cb5 := b1.cell 5 _ rfl
  have fb0 := b1.froz 0 (by simp)
  have fb1 := b1.froz 1 (by simp)
  have fb2 := b1.froz 2 (by simp)
  have fb3 := b1.froz 3 (by simp)
  have fb4 := b1.froz 4 (by simp)
  have fb5 := b1.froz 5 (by simp)
  have zb := b1.lt
  have cd0 := b2.cell 0 _ rfl
  have cd1 := b2.cell 1 _ rfl
  have fd0 := b2.froz 0 (by simp)
  have fd1 := b2.froz 1 (by simp)
  have zd := b2.lt
  have H1 := Lib.hid b1
  have H2 := Lib.hid b2
  clear b0 b1 b2
  go_wp2
  go_region
  all_goals
    have ho := out8 H1.out H2.out (by omega) (.int .i64 0) (.bool true) (.int .i64 (p - n)) (.int .i64 0) (.int .i64 s) (.int .i64 0) (.int .i64 0) (.slice A n c)
    have hb := below_out8 HB1.out (b := w.heap.size + 1) (b' := w.heap.size + 1 + 1) (by omega) (by omega) (.int .i64 0) (.bool true) (.int .i64 (p - n)) (.int .i64 0) (.int .i64 s) (.int .i64 0) (.int .i64 0) (.slice A n c)
    have k1 := (ho.1.alloc (.cells #[.int .i64 0, .bool true, .int .i64 (p - n), .int .i64 0, .int .i64 s, .int .i64 0] 42)).drew
    have k2 := (ho.2.alloc (.cells #[.int .i64 0, .bool true, .int .i64 (p - n), .int .i64 0, .int .i64 s, .int .i64 0] 42)).drew
    have hb2 := (hb.alloc hb.size (.cells #[.int .i64 0, .bool true, .int .i64 (p - n), .int .i64 0, .int .i64 s, .int .i64 0] 42)).drew
    have e0 := k1.cell 0 _ rfl
    have e1 := k1.cell 1 _ rfl
    have e2 := k1.cell 2 _ rfl
    have e3 := k1.cell 3 _ rfl
    have e4 := k1.cell 4 _ rfl
    have e5 := k1.cell 5 _ rfl
    have g0 := k2.cell 0 _ rfl
    have g1 := k2.cell 1 _ rfl
    clear ho k1 k2 hb ca0 ca1 cb0 cb1 cb2 cb3 cb4 cb5 fb0 fb1 fb2 fb3 fb4 fb5 cd0 cd1 fd0 fd1
    generalize World.drew _ = WZ at e0 e1 e2 e3 e4 e5 g0 g1 hb2 ⊢
    clear H1 H2 HB1 HF
    go_wp2
    exact bodyPost_ret (v := .tuple #[repV ⟨0, true, p - n, 0, s, 0⟩, .agg #[.int .i64 0, .slice A n c], .bool true]) (by simp [results, Try.results66, go_sem, e0, e1, e2, e3, e4, e5, g0, g1]) rfl ⟨rfl, hb2⟩
end Go.Proofs.Ytnkecjjfbllgdaa
