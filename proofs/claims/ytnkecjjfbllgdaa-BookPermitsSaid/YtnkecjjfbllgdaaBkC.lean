/- cell.Do, by ways. -/
import Derived.Test.YtnkecjjfbllgdaaBkB
namespace Go.Proofs.Ytnkecjjfbllgdaa
open Go.RowKit
set_option maxRecDepth 100000
set_option linter.unusedVariables false
/-- From block B on nothing has turned. -/
structure Above (B : Nat) (w w' : World) : Prop where
  size : w.heap.size ≤ w'.heap.size
  block : ∀ k, B ≤ k → k < w.heap.size → w'.heap[k]? = w.heap[k]?
section
variable {B : Nat} {w w' w2 : World}
theorem Above.refl (B : Nat) (w : World) : Above B w w := ⟨Nat.le_refl _, fun _ _ _ => rfl⟩
theorem Above.below (h : Above B w w') (k : Below w'.heap.size w' w2) : Above B w w2 := ⟨Nat.le_trans h.size k.size, fun i hi hl => (k.block i (Nat.lt_of_lt_of_le hl h.size)).trans (h.block i hi hl)⟩
theorem Above.setCell (h : Above B w w') {p : Addr} (hp : p.block < B) (u : Value) : Above B w (w'.setCell p u) :=
  ⟨by simpa [World.setCell] using h.size, fun k hk hl => (Below.heap_setCell _ _ _ _ (by omega)).trans (h.block k hk hl)⟩
theorem OwnI.above {A : Option Addr} {n c : Nat} {xs : List Int} (h : OwnI w B A n c xs) (hA : Above B w w') : OwnI w' B A n c xs := by
  rcases h with ⟨h0, h | ⟨g, cap, cur, h1, h2, h3, h4⟩⟩
  · exact ⟨h0, .inl h⟩
  · exact ⟨h0, .inr ⟨g, cap, cur, h1, h2, (hA.block g h2 (Array.getElem?_eq_some_iff.1 h3).1).trans h3, h4⟩⟩
theorem Above.put6 (h : Above B w w') {b : Nat} (hb : b < B) (v0 v1 v2 v3 v4 v5 : Value) :
    Above B w ((((((w'.setCell ⟨b, 0, none⟩ v0).setCell ⟨b, 1, none⟩ v1).setCell ⟨b, 2, none⟩ v2).setCell ⟨b, 3, none⟩ v3).setCell ⟨b, 4, none⟩ v4).setCell ⟨b, 5, none⟩ v5) :=
  (((((h.setCell (p := ⟨b, 0, none⟩) hb v0).setCell (p := ⟨b, 1, none⟩) hb v1).setCell (p := ⟨b, 2, none⟩) hb v2).setCell (p := ⟨b, 3, none⟩) hb v3).setCell (p := ⟨b, 4, none⟩) hb v4).setCell (p := ⟨b, 5, none⟩) hb v5
theorem Above.put2 (h : Above B w w') {b : Nat} (hb : b < B) (v0 v1 : Value) : Above B w ((w'.setCell ⟨b, 0, none⟩ v0).setCell ⟨b, 1, none⟩ v1) :=
  (h.setCell (p := ⟨b, 0, none⟩) hb v0).setCell (p := ⟨b, 1, none⟩) hb v1
end
/-- What cell.Do answers: a reply, a cell, whether it must be put. -/
def CellEnd (w : World) (o : OutM) (e : Ending) (w' : World) : Prop :=
  ∃ A n c, e = .returned (.tuple #[repV o.1, .agg #[.int .i64 (o.2.1.tat : Nat), .slice A n c], .bool o.2.2]) ∧ (o.2.2 = true → OwnI w' w.heap.size A n c o.2.1.held) ∧ Below w.heap.size w w'
/-- What Take and Give answer, and what held makes of that. -/
abbrev GotE (r : RepM) (xs : List Int) (ch : Bool) (s f : Int) (W : World) (e : Ending) (w' : World) : Prop :=
  ∃ P' A' m' c' A2 m2 c2, e = .returned (.tuple #[.agg #[.int .i64 P', .slice A' m' c'], .int .i64 f]) ∧ Below W.heap.size W w' ∧
    (∀ W2, Above W.heap.size w' W2 → Calls Try.prog 66 #[.agg #[.int .i64 P', .slice A' m' c'], .int .i64 s, .int .i64 f] W2 (ValEnd W2 (.tuple #[.agg #[.int .i64 r.e, .bool r.g, .int .i64 r.l, .int .i64 r.wt, .int .i64 r.s, .int .i64 r.now], .agg #[.int .i64 0, .slice A2 m2 c2], .bool ch]))) ∧
    (ch = true → ∀ W2, Above W.heap.size w' W2 → OwnI W2 W.heap.size A2 m2 c2 xs)
set_option maxHeartbeats 1600000 in
theorem cDo_allow (w : World) (kd : Nat) (T Tau pm q s : Int) (tat : Nat) (A KA : Option Addr) (m k kn kc now n : Nat) (gb ch : Bool) (l2 x t2 : Int)
    (HA : Hid (∀ w, Calls Try.prog 63 #[.agg #[.int .i64 T, .int .i64 Tau], .agg #[.int .i64 (tat : Nat), .slice A m k], .int .i64 (now : Nat), .int .i64 (n : Nat)] w
      (ValEnd w (.tuple #[.agg #[.int .i64 0, .bool gb, .int .i64 l2, .int .i64 x, .int .i64 0, .int .i64 (now : Nat)], .agg #[.int .i64 t2, .slice none 0 0], .bool ch])))) :
    Calls Try.prog 54 #[.agg #[.int .u8 (kd : Nat), .int .i64 T, .int .i64 Tau, .int .i64 pm], .agg #[.int .i64 (tat : Nat), .slice A m k], .agg #[.int .u8 1, .int .i64 q, .slice KA kn kc, .int .i64 (n : Nat)], .int .i64 (now : Nat), .int .i64 s] w
      (ValEnd w (.tuple #[.agg #[.int .i64 0, .bool gb, .int .i64 l2, .int .i64 x, .int .i64 0, .int .i64 (now : Nat)], .agg #[.int .i64 t2, .slice none 0 0], .bool ch])) := by
  go_enter Try.func54, Try.ntmps54
  go_wp2_with fail
  with_reducible refine (HA.out _).mono ?_
  rintro e w1 ⟨rfl, hb⟩
  have b3 := ((BlkL.new _ [.int .i64 0, .bool false, .int .i64 0, .int .i64 0, .int .i64 0, .int .i64 0] 42).alloc _).below hb
  have b4 := (BlkL.new _ [.int .i64 0, .slice none 0 0] 83).below hb
  simp only [World.size_alloc] at b3 b4
  have HB1 := Lib.hid ((below_a5 w _ _ _ _ _).trans (hb.mono (by simp; omega)))
  clear hb
  have cb0 := b3.cell 0 _ rfl
  have cb1 := b3.cell 1 _ rfl
  have cb2 := b3.cell 2 _ rfl
  have cb3 := b3.cell 3 _ rfl
  have cb4 := b3.cell 4 _ rfl
  have cb5 := b3.cell 5 _ rfl
  have fb0 := b3.froz 0 (by simp)
  have fb1 := b3.froz 1 (by simp)
  have fb2 := b3.froz 2 (by simp)
  have fb3 := b3.froz 3 (by simp)
  have fb4 := b3.froz 4 (by simp)
  have fb5 := b3.froz 5 (by simp)
  have zb := b3.lt
  have cd0 := b4.cell 0 _ rfl
  have cd1 := b4.cell 1 _ rfl
  have fd0 := b4.froz 0 (by simp)
  have fd1 := b4.froz 1 (by simp)
  have zd := b4.lt
  have H1 := Lib.hid b3
  have H2 := Lib.hid b4
  clear b3 b4
  go_wp2_with fail
  have ho := out8 H1.out H2.out (by omega) (.int .i64 0) (.bool gb) (.int .i64 l2) (.int .i64 x) (.int .i64 0) (.int .i64 (now : Nat)) (.int .i64 t2) (.slice none 0 0)
  have hb := below_out8 HB1.out (b := w.heap.size + 1 + 1 + 1) (b' := w.heap.size + 1 + 1 + 1 + 1) (by omega) (by omega) (.int .i64 0) (.bool gb) (.int .i64 l2) (.int .i64 x) (.int .i64 0) (.int .i64 (now : Nat)) (.int .i64 t2) (.slice none 0 0)
  have k1 := ho.1
  have k2 := ho.2
  clear ho
  have e0 := k1.cell 0 _ rfl
  have e1 := k1.cell 1 _ rfl
  have e2 := k1.cell 2 _ rfl
  have e3 := k1.cell 3 _ rfl
  have e4 := k1.cell 4 _ rfl
  have e5 := k1.cell 5 _ rfl
  have g0 := k2.cell 0 _ rfl
  have g1 := k2.cell 1 _ rfl
  clear k1 k2
  clear cb0 cb1 cb2 cb3 cb4 cb5 fb0 fb1 fb2 fb3 fb4 fb5 cd0 cd1 fd0 fd1 zb zd H1 H2 HB1 HA
  generalize World.setCell _ _ _ = WZ at e0 e1 e2 e3 e4 e5 g0 g1 hb ⊢
  exact bodyPost_ret (v := .tuple #[.agg #[.int .i64 0, .bool gb, .int .i64 l2, .int .i64 x, .int .i64 0, .int .i64 (now : Nat)], .agg #[.int .i64 t2, .slice none 0 0], .bool ch]) (by simp [results, Try.results54, go_sem, e0, e1, e2, e3, e4, e5, g0, g1]) rfl (⟨rfl, hb⟩)

set_option maxHeartbeats 1600000 in
theorem cDo_take (w : World) (kd : Nat) (T Tau pm q s n now f : Int) (tat : Nat) (A KA : Option Addr) (m k kn kc : Nat) (r : RepM) (xs : List Int) (ch : Bool)
    (HS : Hid (∀ w, Calls Try.prog 65 #[.agg #[.int .i64 (tat : Nat), .slice A m k], .agg #[.int .u8 (kd : Nat), .int .i64 T, .int .i64 Tau, .int .i64 pm]] w (ValEnd w (.agg #[.int .i64 pm, .slice A m k]))))
    (HG : Hid (∀ W, Below w.heap.size w W → Calls Try.prog 64 #[.agg #[.int .i64 pm, .slice A m k], .int .i64 s] W (GotE r xs ch s f W))) :
    Calls Try.prog 54 #[.agg #[.int .u8 (kd : Nat), .int .i64 T, .int .i64 Tau, .int .i64 pm], .agg #[.int .i64 (tat : Nat), .slice A m k], .agg #[.int .u8 2, .int .i64 q, .slice KA kn kc, .int .i64 n], .int .i64 now, .int .i64 s] w
      (CellEnd w (r, ⟨0, xs⟩, ch)) := by
  obtain ⟨r0, r1, r2, r3, r4, r5⟩ := r
  go_enter Try.func54, Try.ntmps54
  go_wp2_with fail
  with_reducible refine (HS.out _).mono ?_
  rintro e w1 ⟨rfl, hb⟩
  have b3 := ((BlkL.new _ [.int .i64 0, .bool false, .int .i64 0, .int .i64 0, .int .i64 0, .int .i64 0] 42).alloc _).below hb
  have b4 := (BlkL.new _ [.int .i64 0, .slice none 0 0] 83).below hb
  simp only [World.size_alloc] at b3 b4
  have HB1 := Lib.hid ((below_a5 w _ _ _ _ _).trans (hb.mono (by simp; omega)))
  clear hb
  have HZ := Lib.hid b4.lt
  have K3 := Lib.hid b3
  have K4 := Lib.hid b4
  clear b3 b4
  go_wp2_with fail
  with_reducible refine (HG.out _ HB1.out).mono ?_
  rintro e w2 ⟨P', A', m', c', A2, m2, c2, rfl, hb, hh, ha⟩
  have HH := Lib.hid hh
  have HQ := Lib.hid ha
  have b3 := K3.out.below hb
  have b4 := K4.out.below hb
  have HB2 := Lib.hid (HB1.out.trans (hb.mono HB1.out.size))
  clear hb hh ha K3 K4 HB1
  have K3 := Lib.hid b3
  have K4 := Lib.hid b4
  clear b3 b4
  go_wp2_with fail
  with_reducible refine (HH.out _ ((Above.refl _ w2).below (below_a1 w2 _))).mono ?_
  rintro e w3 ⟨rfl, hb⟩
  have b3 := (K3.out.alloc _).below hb
  have b4 := (K4.out.alloc _).below hb
  have hw2 := (below_a1 w2 _).trans (hb.mono (by simp))
  have HW := Lib.hid ((Above.refl w1.heap.size w2).below hw2)
  have HB1 := Lib.hid (HB2.out.trans (hw2.mono HB2.out.size))
  have hz1 := HZ.out
  clear hb hw2 K3 K4
  have cb0 := b3.cell 0 _ rfl
  have cb1 := b3.cell 1 _ rfl
  have cb2 := b3.cell 2 _ rfl
  have cb3 := b3.cell 3 _ rfl
  have cb4 := b3.cell 4 _ rfl
  have cb5 := b3.cell 5 _ rfl
  have fb0 := b3.froz 0 (by simp)
  have fb1 := b3.froz 1 (by simp)
  have fb2 := b3.froz 2 (by simp)
  have fb3 := b3.froz 3 (by simp)
  have fb4 := b3.froz 4 (by simp)
  have fb5 := b3.froz 5 (by simp)
  have zb := b3.lt
  have cd0 := b4.cell 0 _ rfl
  have cd1 := b4.cell 1 _ rfl
  have fd0 := b4.froz 0 (by simp)
  have fd1 := b4.froz 1 (by simp)
  have zd := b4.lt
  have H1 := Lib.hid b3
  have H2 := Lib.hid b4
  clear b3 b4
  go_wp2_with fail
  have ho := out8 H1.out H2.out (by omega) (.int .i64 r0) (.bool r1) (.int .i64 r2) (.int .i64 r3) (.int .i64 r4) (.int .i64 r5) (.int .i64 0) (.slice A2 m2 c2)
  have hb := below_out8 HB1.out (b := w.heap.size + 1 + 1 + 1) (b' := w.heap.size + 1 + 1 + 1 + 1) (by omega) (by omega) (.int .i64 r0) (.bool r1) (.int .i64 r2) (.int .i64 r3) (.int .i64 r4) (.int .i64 r5) (.int .i64 0) (.slice A2 m2 c2)
  have k1 := ho.1
  have k2 := ho.2
  clear ho
  have e0 := k1.cell 0 _ rfl
  have e1 := k1.cell 1 _ rfl
  have e2 := k1.cell 2 _ rfl
  have e3 := k1.cell 3 _ rfl
  have e4 := k1.cell 4 _ rfl
  have e5 := k1.cell 5 _ rfl
  have g0 := k2.cell 0 _ rfl
  have g1 := k2.cell 1 _ rfl
  clear k1 k2
  have hz9 : w.heap.size ≤ w1.heap.size := by omega
  have hz := (HW.out.put6 (b := w.heap.size + 1 + 1 + 1) (by omega) (.int .i64 r0) (.bool r1) (.int .i64 r2) (.int .i64 r3) (.int .i64 r4) (.int .i64 r5)).put2 (b := w.heap.size + 1 + 1 + 1 + 1) (by omega) (.int .i64 0) (.slice A2 m2 c2)
  clear cb0 cb1 cb2 cb3 cb4 cb5 fb0 fb1 fb2 fb3 fb4 fb5 cd0 cd1 fd0 fd1 zb zd H1 H2 HB1 HS HG HH HW HB2
  generalize World.setCell _ _ _ = WZ at e0 e1 e2 e3 e4 e5 g0 g1 hb hz ⊢
  exact bodyPost_ret (v := .tuple #[.agg #[.int .i64 r0, .bool r1, .int .i64 r2, .int .i64 r3, .int .i64 r4, .int .i64 r5], .agg #[.int .i64 0, .slice A2 m2 c2], .bool ch]) (by simp [results, Try.results54, go_sem, e0, e1, e2, e3, e4, e5, g0, g1]) rfl (⟨A2, m2, c2, rfl, fun hch => (HQ.out hch _ hz).mono hz9, hb⟩)

set_option maxHeartbeats 3200000 in
theorem cDo_give (w : World) (kd : Nat) (T Tau pm q s n now f : Int) (tat : Nat) (A KA : Option Addr) (m k kn kc : Nat) (r : RepM) (xs : List Int) (ch : Bool)
    (HS : Hid (∀ w, Calls Try.prog 65 #[.agg #[.int .i64 (tat : Nat), .slice A m k], .agg #[.int .u8 (kd : Nat), .int .i64 T, .int .i64 Tau, .int .i64 pm]] w fun e w' => e = .returned (.agg #[.int .i64 pm, .slice A m k]) ∧ Below w.heap.size w w'))
    (HG : Hid (∀ W, Below w.heap.size w W → Calls Try.prog 67 #[.agg #[.int .i64 pm, .slice A m k], .int .i64 n] W (GotE r xs ch 0 f W))) :
    Calls Try.prog 54 #[.agg #[.int .u8 (kd : Nat), .int .i64 T, .int .i64 Tau, .int .i64 pm], .agg #[.int .i64 (tat : Nat), .slice A m k], .agg #[.int .u8 3, .int .i64 q, .slice KA kn kc, .int .i64 n], .int .i64 now, .int .i64 s] w
      (CellEnd w (r, ⟨0, xs⟩, ch)) := by
  obtain ⟨r0, r1, r2, r3, r4, r5⟩ := r
  go_enter Try.func54, Try.ntmps54
  go_wp2
  have b0 := ((((BlkL.new w [.int .u8 (kd : Nat), .int .i64 T, .int .i64 Tau, .int .i64 pm] 52).alloc (.cells #[.int .i64 (tat : Nat), .slice A m k] 83)).alloc (.cells #[.int .u8 3, .int .i64 q, .slice KA kn kc, .int .i64 n] 25)).alloc (.cells #[.int .i64 0, .bool false, .int .i64 0, .int .i64 0, .int .i64 0, .int .i64 0] 42)).alloc (.cells #[.int .i64 0, .slice none 0 0] 83)
  have b1 := (((BlkL.new (w.alloc (.cells #[.int .u8 (kd : Nat), .int .i64 T, .int .i64 Tau, .int .i64 pm] 52)) [.int .i64 (tat : Nat), .slice A m k] 83).alloc (.cells #[.int .u8 3, .int .i64 q, .slice KA kn kc, .int .i64 n] 25)).alloc (.cells #[.int .i64 0, .bool false, .int .i64 0, .int .i64 0, .int .i64 0, .int .i64 0] 42)).alloc (.cells #[.int .i64 0, .slice none 0 0] 83)
  have b2 := ((BlkL.new ((w.alloc (.cells #[.int .u8 (kd : Nat), .int .i64 T, .int .i64 Tau, .int .i64 pm] 52)).alloc (.cells #[.int .i64 (tat : Nat), .slice A m k] 83)) [.int .u8 3, .int .i64 q, .slice KA kn kc, .int .i64 n] 25).alloc (.cells #[.int .i64 0, .bool false, .int .i64 0, .int .i64 0, .int .i64 0, .int .i64 0] 42)).alloc (.cells #[.int .i64 0, .slice none 0 0] 83)
  have b3 := (BlkL.new (((w.alloc (.cells #[.int .u8 (kd : Nat), .int .i64 T, .int .i64 Tau, .int .i64 pm] 52)).alloc (.cells #[.int .i64 (tat : Nat), .slice A m k] 83)).alloc (.cells #[.int .u8 3, .int .i64 q, .slice KA kn kc, .int .i64 n] 25)) [.int .i64 0, .bool false, .int .i64 0, .int .i64 0, .int .i64 0, .int .i64 0] 42).alloc (.cells #[.int .i64 0, .slice none 0 0] 83)
  have b4 := BlkL.new ((((w.alloc (.cells #[.int .u8 (kd : Nat), .int .i64 T, .int .i64 Tau, .int .i64 pm] 52)).alloc (.cells #[.int .i64 (tat : Nat), .slice A m k] 83)).alloc (.cells #[.int .u8 3, .int .i64 q, .slice KA kn kc, .int .i64 n] 25)).alloc (.cells #[.int .i64 0, .bool false, .int .i64 0, .int .i64 0, .int .i64 0, .int .i64 0] 42)) [.int .i64 0, .slice none 0 0] 83
  have hb0 := below_a5 w (.cells #[.int .u8 (kd : Nat), .int .i64 T, .int .i64 Tau, .int .i64 pm] 52) (.cells #[.int .i64 (tat : Nat), .slice A m k] 83) (.cells #[.int .u8 3, .int .i64 q, .slice KA kn kc, .int .i64 n] 25) (.cells #[.int .i64 0, .bool false, .int .i64 0, .int .i64 0, .int .i64 0, .int .i64 0] 42) (.cells #[.int .i64 0, .slice none 0 0] 83)
  simp only [World.size_alloc, List.toArray] at b0 b1 b2 b3 b4 hb0
  generalize World.alloc _ _ = WA at b0 b1 b2 b3 b4 hb0 ⊢
  have a00 := b0.cell 0 _ rfl
  have a01 := b0.cell 1 _ rfl
  have a02 := b0.cell 2 _ rfl
  have a03 := b0.cell 3 _ rfl
  have a10 := b1.cell 0 _ rfl
  have a11 := b1.cell 1 _ rfl
  have a23 := b2.cell 3 _ rfl
  have HB0 := Lib.hid hb0
  have K0 := Lib.hid b0
  have K1 := Lib.hid b1
  have K2 := Lib.hid b2
  have K3 := Lib.hid b3
  have K4 := Lib.hid b4
  have HK4L := Lib.hid b4.lt
  have HY := Lib.hid (And.intro b0.lt (And.intro b1.lt b2.lt))
  have y0 := b0.lt
  have y1 := b1.lt
  have y2 := b2.lt
  clear b0 b1 b2 b3 b4 hb0
  go_region_held3 (fun w' => w'.cell? ⟨w.heap.size, 0, none⟩ = some (.int .u8 (kd : Nat)) ∧ w'.cell? ⟨w.heap.size, 1, none⟩ = some (.int .i64 T) ∧ w'.cell? ⟨w.heap.size, 2, none⟩ = some (.int .i64 Tau) ∧ w'.cell? ⟨w.heap.size, 3, none⟩ = some (.int .i64 pm) ∧ w'.cell? ⟨w.heap.size + 1, 0, none⟩ = some (.int .i64 (tat : Nat)) ∧ w'.cell? ⟨w.heap.size + 1, 1, none⟩ = some (.slice A m k) ∧ w'.cell? ⟨w.heap.size + 1 + 1, 3, none⟩ = some (.int .i64 n)) (first | go_keep | exact ⟨keep2 d0 (by assumption), keep2 d0 (by assumption), keep2 d0 (by assumption), keep2 d0 (by assumption), keep2 d1 (by assumption), keep2 d1 (by assumption), keep2 d2 (by assumption)⟩) ((first | (with_reducible refine (HS.out WA.drew).mono ?_; rintro e w1 ⟨rfl, hb⟩; have k0 := K0.out.drew.below hb; have k1 := K1.out.drew.below hb; have k2 := K2.out.drew.below hb; have k3 := K3.out.drew.below hb; have k4 := K4.out.drew.below hb; have HB1 := Lib.hid (HB0.out.drew.trans (hb.mono HB0.out.drew.size)); clear hb a00 a01 a02 a03 a10 a11 a23 y0 y1 y2; have n00 := k0.cell 0 _ rfl; have n01 := k0.cell 1 _ rfl; have n02 := k0.cell 2 _ rfl; have n03 := k0.cell 3 _ rfl; have n10 := k1.cell 0 _ rfl; have n11 := k1.cell 1 _ rfl; have n23 := k2.cell 3 _ rfl; have y0 := k0.lt; have y1 := k1.lt; have y2 := k2.lt; have L0 := Lib.hid k0; have L1 := Lib.hid k1; have L2 := Lib.hid k2; have L3 := Lib.hid k3; have L4 := Lib.hid k4; clear k0 k1 k2 k3 k4) | (with_reducible refine (HS.out (WA.alloc (.cells #[.int .i64 0, .slice none 0 0] 93)).drew).mono ?_; rintro e w1 ⟨rfl, hb⟩; have k0 := ((K0.out.alloc (.cells #[.int .i64 0, .slice none 0 0] 93)).drew).below hb; have k1 := ((K1.out.alloc (.cells #[.int .i64 0, .slice none 0 0] 93)).drew).below hb; have k2 := ((K2.out.alloc (.cells #[.int .i64 0, .slice none 0 0] 93)).drew).below hb; have k3 := ((K3.out.alloc (.cells #[.int .i64 0, .slice none 0 0] 93)).drew).below hb; have k4 := ((K4.out.alloc (.cells #[.int .i64 0, .slice none 0 0] 93)).drew).below hb; have kx := ((BlkL.new WA [.int .i64 0, .slice none 0 0] 93).drew).below hb; have HB1 := Lib.hid (((HB0.out.alloc HB0.out.size (.cells #[.int .i64 0, .slice none 0 0] 93)).drew).trans (hb.mono (by have := HB0.out.size; simp; omega))); clear hb a00 a01 a02 a03 a10 a11 a23 y0 y1 y2; have n00 := k0.cell 0 _ rfl; have n01 := k0.cell 1 _ rfl; have n02 := k0.cell 2 _ rfl; have n03 := k0.cell 3 _ rfl; have n10 := k1.cell 0 _ rfl; have n11 := k1.cell 1 _ rfl; have n23 := k2.cell 3 _ rfl; have y0 := k0.lt; have y1 := k1.lt; have y2 := k2.lt; have x0 := kx.cell 0 _ rfl; have x1 := kx.cell 1 _ rfl; have fx0 := kx.froz 0 (by simp); have fx1 := kx.froz 1 (by simp); have HX := Lib.hid kx; have L0 := Lib.hid k0; have L1 := Lib.hid k1; have L2 := Lib.hid k2; have L3 := Lib.hid k3; have L4 := Lib.hid k4; clear k0 k1 k2 k3 k4 kx) | (revert HX; intro HX; with_reducible refine (HG.out w1 HB1.out).mono ?_; rintro e w2 ⟨P', A', m', c', A2, m2, c2, rfl, hb, hh, ha⟩; have HH := Lib.hid hh; have HQ := Lib.hid ha; have HZ := Lib.hid L4.out.lt; have b0 := L0.out.below hb; have b1 := L1.out.below hb; have b2 := L2.out.below hb; have b3 := L3.out.below hb; have b4 := L4.out.below hb; have HXL := Lib.hid (And.intro HX.out.lt (And.intro HK4L.out HZ.out)); have bx := HX.out.below hb; have HB2 := Lib.hid (HB1.out.trans (hb.mono HB1.out.size)); clear hb hh ha L0 L1 L2 L3 L4 HB1 n00 n01 n02 n03 n10 n11 n23 y0 y1 y2 x0 x1 fx0 fx1; have M3 := Lib.hid b3; have M4 := Lib.hid b4; have m00 := b0.cell 0 _ rfl; have m01 := b0.cell 1 _ rfl; have m02 := b0.cell 2 _ rfl; have m03 := b0.cell 3 _ rfl; have m10 := b1.cell 0 _ rfl; have m11 := b1.cell 1 _ rfl; have m23 := b2.cell 3 _ rfl; have y0 := b0.lt; have y1 := b1.lt; have y2 := b2.lt; have x0 := bx.cell 0 _ rfl; have x1 := bx.cell 1 _ rfl; have fx0 := bx.froz 0 (by simp); have fx1 := bx.froz 1 (by simp); have HX2 := Lib.hid bx; have d0 := Nat.ne_of_lt HY.out.1; have d1 := Nat.ne_of_lt HY.out.2.1; have d2 := Nat.ne_of_lt HY.out.2.2; clear bx HX; clear b0 b1 b2 b3 b4) | (with_reducible refine (HG.out w1 HB1.out).mono ?_; rintro e w2 ⟨P', A', m', c', A2, m2, c2, rfl, hb, hh, ha⟩; have HH := Lib.hid hh; have HQ := Lib.hid ha; have HZ := Lib.hid L4.out.lt; have b0 := L0.out.below hb; have b1 := L1.out.below hb; have b2 := L2.out.below hb; have b3 := L3.out.below hb; have b4 := L4.out.below hb; have HT := trivial; have HB2 := Lib.hid (HB1.out.trans (hb.mono HB1.out.size)); clear hb hh ha L0 L1 L2 L3 L4 HB1 n00 n01 n02 n03 n10 n11 n23 y0 y1 y2 ; have M3 := Lib.hid b3; have M4 := Lib.hid b4; have m00 := b0.cell 0 _ rfl; have m01 := b0.cell 1 _ rfl; have m02 := b0.cell 2 _ rfl; have m03 := b0.cell 3 _ rfl; have m10 := b1.cell 0 _ rfl; have m11 := b1.cell 1 _ rfl; have m23 := b2.cell 3 _ rfl; have y0 := b0.lt; have y1 := b1.lt; have y2 := b2.lt; skip; clear b0 b1 b2 b3 b4) | (with_reducible refine (HG.out (w1.alloc (.cells #[.int .i64 0, .slice none 0 0] 93)) (HB1.out.alloc HB1.out.size (.cells #[.int .i64 0, .slice none 0 0] 93))).mono ?_; rintro e w2 ⟨P', A', m', c', A2, m2, c2, rfl, hb, hh, ha⟩; have HH := Lib.hid hh; have HQ := Lib.hid ha; have HZ := Lib.hid L4.out.lt; have b0 := (L0.out.alloc (.cells #[.int .i64 0, .slice none 0 0] 93)).below hb; have b1 := (L1.out.alloc (.cells #[.int .i64 0, .slice none 0 0] 93)).below hb; have b2 := (L2.out.alloc (.cells #[.int .i64 0, .slice none 0 0] 93)).below hb; have b3 := (L3.out.alloc (.cells #[.int .i64 0, .slice none 0 0] 93)).below hb; have b4 := (L4.out.alloc (.cells #[.int .i64 0, .slice none 0 0] 93)).below hb; have bx := (BlkL.new w1 [.int .i64 0, .slice none 0 0] 93).below hb; have d0 := Nat.ne_of_lt L0.out.lt; have d1 := Nat.ne_of_lt L1.out.lt; have d2 := Nat.ne_of_lt L2.out.lt; have HB2 := Lib.hid ((HB1.out.alloc HB1.out.size (.cells #[.int .i64 0, .slice none 0 0] 93)).trans (hb.mono (HB1.out.alloc HB1.out.size (.cells #[.int .i64 0, .slice none 0 0] 93)).size)); clear hb hh ha L0 L1 L2 L3 L4 HB1 n00 n01 n02 n03 n10 n11 n23 y0 y1 y2 ; have M3 := Lib.hid b3; have M4 := Lib.hid b4; have m00 := b0.cell 0 _ rfl; have m01 := b0.cell 1 _ rfl; have m02 := b0.cell 2 _ rfl; have m03 := b0.cell 3 _ rfl; have m10 := b1.cell 0 _ rfl; have m11 := b1.cell 1 _ rfl; have m23 := b2.cell 3 _ rfl; have y0 := b0.lt; have y1 := b1.lt; have y2 := b2.lt; have x0 := bx.cell 0 _ rfl; have x1 := bx.cell 1 _ rfl; have fx0 := bx.froz 0 (by simp); have fx1 := bx.froz 1 (by simp); have HX2 := Lib.hid bx; clear bx; clear b0 b1 b2 b3 b4)))
  · have bx := BlkL.new w2 [.int .i64 P', .slice A' m' c'] 93
    have b3 := M3.out.alloc (.cells #[.int .i64 P', .slice A' m' c'] 93)
    have b4 := M4.out.alloc (.cells #[.int .i64 P', .slice A' m' c'] 93)
    have hb3 := HB2.out.alloc HB2.out.size (.cells #[.int .i64 P', .slice A' m' c'] 93)
    have hab := (Above.refl w1.heap.size w2).below (below_a1 w2 (.cells #[.int .i64 P', .slice A' m' c'] 93))
    rename_i hHd
    clear hHd m00 m01 m02 m03 m10 m11 m23 y0 y1 y2
    simp only [List.toArray] at bx
    generalize World.alloc _ _ = WE at bx b3 b4 hb3 hab ⊢
    have x0 := bx.cell 0 _ rfl
    have x1 := bx.cell 1 _ rfl
    have HA3 := Lib.hid hab
    have HB3 := Lib.hid hb3
    have N3 := Lib.hid b3
    have N4 := Lib.hid b4
    clear bx b3 b4 hb3 hab
    go_wp2_with fail
    with_reducible refine (HH.out _ HA3.out).mono ?_
    rintro e w3 ⟨rfl, hb⟩
    have b3 := N3.out.below hb
    have b4 := N4.out.below hb
    have HB1 := Lib.hid (HB3.out.trans (hb.mono HB3.out.size))
    have HW := Lib.hid (HA3.out.below hb)
    clear hb N3 N4 x0 x1
    have cb0 := b3.cell 0 _ rfl
    have cb1 := b3.cell 1 _ rfl
    have cb2 := b3.cell 2 _ rfl
    have cb3 := b3.cell 3 _ rfl
    have cb4 := b3.cell 4 _ rfl
    have cb5 := b3.cell 5 _ rfl
    have fb0 := b3.froz 0 (by simp)
    have fb1 := b3.froz 1 (by simp)
    have fb2 := b3.froz 2 (by simp)
    have fb3 := b3.froz 3 (by simp)
    have fb4 := b3.froz 4 (by simp)
    have fb5 := b3.froz 5 (by simp)
    have zb := b3.lt
    have cd0 := b4.cell 0 _ rfl
    have cd1 := b4.cell 1 _ rfl
    have fd0 := b4.froz 0 (by simp)
    have fd1 := b4.froz 1 (by simp)
    have zd := b4.lt
    have H1 := Lib.hid b3
    have H2 := Lib.hid b4
    clear b3 b4
    go_wp2_with fail
    have ho := out8 H1.out H2.out (by omega) (.int .i64 r0) (.bool r1) (.int .i64 r2) (.int .i64 r3) (.int .i64 r4) (.int .i64 r5) (.int .i64 0) (.slice A2 m2 c2)
    have hb := below_out8 HB1.out (b := w.heap.size + 1 + 1 + 1) (b' := w.heap.size + 1 + 1 + 1 + 1) (by omega) (by omega) (.int .i64 r0) (.bool r1) (.int .i64 r2) (.int .i64 r3) (.int .i64 r4) (.int .i64 r5) (.int .i64 0) (.slice A2 m2 c2)
    have k1 := ho.1
    have k2 := ho.2
    clear ho
    have e0 := k1.cell 0 _ rfl
    have e1 := k1.cell 1 _ rfl
    have e2 := k1.cell 2 _ rfl
    have e3 := k1.cell 3 _ rfl
    have e4 := k1.cell 4 _ rfl
    have e5 := k1.cell 5 _ rfl
    have g0 := k2.cell 0 _ rfl
    have g1 := k2.cell 1 _ rfl
    clear k1 k2
    have hz := (HW.out.put6 (b := w.heap.size + 1 + 1 + 1) (by have := HZ.out; simp <;> omega) (.int .i64 r0) (.bool r1) (.int .i64 r2) (.int .i64 r3) (.int .i64 r4) (.int .i64 r5)).put2 (b := w.heap.size + 1 + 1 + 1 + 1) (by have := HZ.out; simp <;> omega) (.int .i64 0) (.slice A2 m2 c2)
    clear cb0 cb1 cb2 cb3 cb4 cb5 fb0 fb1 fb2 fb3 fb4 fb5 cd0 cd1 fd0 fd1 zb zd H1 H2 HB1 HS HG HH HW
    generalize World.setCell _ _ _ = WZ at e0 e1 e2 e3 e4 e5 g0 g1 hb hz ⊢
    exact bodyPost_ret (v := .tuple #[.agg #[.int .i64 r0, .bool r1, .int .i64 r2, .int .i64 r3, .int .i64 r4, .int .i64 r5], .agg #[.int .i64 0, .slice A2 m2 c2], .bool ch]) (by simp [results, Try.results54, go_sem, e0, e1, e2, e3, e4, e5, g0, g1]) rfl (⟨A2, m2, c2, rfl, fun hch => (HQ.out hch _ hz).mono (by have := HZ.out; simp <;> omega), hb⟩)
  · have hz3 := HZ.out
    have bx := HX2.out.put2 (.int .i64 P') (.slice A' m' c')
    have b3 := (M3.out.other w1.heap.size 0 (.int .i64 P') (by omega)).other w1.heap.size 1 (.slice A' m' c') (by omega)
    have b4 := (M4.out.other w1.heap.size 0 (.int .i64 P') (by omega)).other w1.heap.size 1 (.slice A' m' c') (by omega)
    have hb3 := below_put2 HB2.out (b := w1.heap.size) (by omega) (.int .i64 P') (.slice A' m' c')
    have hab := (Above.refl (w1.alloc (.cells #[.int .i64 0, .slice none 0 0] 93)).heap.size w2).put2 (b := w1.heap.size) (by simp) (.int .i64 P') (.slice A' m' c')
    rename_i hHd
    clear hHd m00 m01 m02 m03 m10 m11 m23 y0 y1 y2
    clear x0 x1 fx0 fx1 d0 d1 d2 hz3 HX2
    generalize World.setCell _ _ _ = WE at bx b3 b4 hb3 hab ⊢
    have x0 := bx.cell 0 _ rfl
    have x1 := bx.cell 1 _ rfl
    have HA3 := Lib.hid hab
    have HB3 := Lib.hid hb3
    have N3 := Lib.hid b3
    have N4 := Lib.hid b4
    clear bx b3 b4 hb3 hab
    go_wp2_with fail
    with_reducible refine (HH.out _ HA3.out).mono ?_
    rintro e w3 ⟨rfl, hb⟩
    have b3 := N3.out.below hb
    have b4 := N4.out.below hb
    have HB1 := Lib.hid (HB3.out.trans (hb.mono HB3.out.size))
    have HW := Lib.hid (HA3.out.below hb)
    clear hb N3 N4 x0 x1
    have cb0 := b3.cell 0 _ rfl
    have cb1 := b3.cell 1 _ rfl
    have cb2 := b3.cell 2 _ rfl
    have cb3 := b3.cell 3 _ rfl
    have cb4 := b3.cell 4 _ rfl
    have cb5 := b3.cell 5 _ rfl
    have fb0 := b3.froz 0 (by simp)
    have fb1 := b3.froz 1 (by simp)
    have fb2 := b3.froz 2 (by simp)
    have fb3 := b3.froz 3 (by simp)
    have fb4 := b3.froz 4 (by simp)
    have fb5 := b3.froz 5 (by simp)
    have zb := b3.lt
    have cd0 := b4.cell 0 _ rfl
    have cd1 := b4.cell 1 _ rfl
    have fd0 := b4.froz 0 (by simp)
    have fd1 := b4.froz 1 (by simp)
    have zd := b4.lt
    have H1 := Lib.hid b3
    have H2 := Lib.hid b4
    clear b3 b4
    go_wp2_with fail
    have ho := out8 H1.out H2.out (by omega) (.int .i64 r0) (.bool r1) (.int .i64 r2) (.int .i64 r3) (.int .i64 r4) (.int .i64 r5) (.int .i64 0) (.slice A2 m2 c2)
    have hb := below_out8 HB1.out (b := w.heap.size + 1 + 1 + 1) (b' := w.heap.size + 1 + 1 + 1 + 1) (by omega) (by omega) (.int .i64 r0) (.bool r1) (.int .i64 r2) (.int .i64 r3) (.int .i64 r4) (.int .i64 r5) (.int .i64 0) (.slice A2 m2 c2)
    have k1 := ho.1
    have k2 := ho.2
    clear ho
    have e0 := k1.cell 0 _ rfl
    have e1 := k1.cell 1 _ rfl
    have e2 := k1.cell 2 _ rfl
    have e3 := k1.cell 3 _ rfl
    have e4 := k1.cell 4 _ rfl
    have e5 := k1.cell 5 _ rfl
    have g0 := k2.cell 0 _ rfl
    have g1 := k2.cell 1 _ rfl
    clear k1 k2
    have hz := (HW.out.put6 (b := w.heap.size + 1 + 1 + 1) (by have := HZ.out; simp <;> omega) (.int .i64 r0) (.bool r1) (.int .i64 r2) (.int .i64 r3) (.int .i64 r4) (.int .i64 r5)).put2 (b := w.heap.size + 1 + 1 + 1 + 1) (by have := HZ.out; simp <;> omega) (.int .i64 0) (.slice A2 m2 c2)
    clear cb0 cb1 cb2 cb3 cb4 cb5 fb0 fb1 fb2 fb3 fb4 fb5 cd0 cd1 fd0 fd1 zb zd H1 H2 HB1 HS HG HH HW
    generalize World.setCell _ _ _ = WZ at e0 e1 e2 e3 e4 e5 g0 g1 hb hz ⊢
    exact bodyPost_ret (v := .tuple #[.agg #[.int .i64 r0, .bool r1, .int .i64 r2, .int .i64 r3, .int .i64 r4, .int .i64 r5], .agg #[.int .i64 0, .slice A2 m2 c2], .bool ch]) (by simp [results, Try.results54, go_sem, e0, e1, e2, e3, e4, e5, g0, g1]) rfl (⟨A2, m2, c2, rfl, fun hch => (HQ.out hch _ hz).mono (by have := HZ.out; simp <;> omega), hb⟩)
  · have hz3 := HXL.out
    have bx := HX2.out.put2 (.int .i64 P') (.slice A' m' c')
    have b3 := (M3.out.other WA.heap.size 0 (.int .i64 P') (by omega)).other WA.heap.size 1 (.slice A' m' c') (by omega)
    have b4 := (M4.out.other WA.heap.size 0 (.int .i64 P') (by omega)).other WA.heap.size 1 (.slice A' m' c') (by omega)
    have hb3 := below_put2 HB2.out (b := WA.heap.size) (by omega) (.int .i64 P') (.slice A' m' c')
    have hab := (Above.refl w1.heap.size w2).put2 (b := WA.heap.size) (by omega) (.int .i64 P') (.slice A' m' c')
    rename_i hHd
    clear hHd m00 m01 m02 m03 m10 m11 m23 y0 y1 y2
    clear x0 x1 fx0 fx1 d0 d1 d2 hz3 HX2
    generalize World.setCell _ _ _ = WE at bx b3 b4 hb3 hab ⊢
    have x0 := bx.cell 0 _ rfl
    have x1 := bx.cell 1 _ rfl
    have HA3 := Lib.hid hab
    have HB3 := Lib.hid hb3
    have N3 := Lib.hid b3
    have N4 := Lib.hid b4
    clear bx b3 b4 hb3 hab
    go_wp2_with fail
    with_reducible refine (HH.out _ HA3.out).mono ?_
    rintro e w3 ⟨rfl, hb⟩
    have b3 := N3.out.below hb
    have b4 := N4.out.below hb
    have HB1 := Lib.hid (HB3.out.trans (hb.mono HB3.out.size))
    have HW := Lib.hid (HA3.out.below hb)
    clear hb N3 N4 x0 x1
    have cb0 := b3.cell 0 _ rfl
    have cb1 := b3.cell 1 _ rfl
    have cb2 := b3.cell 2 _ rfl
    have cb3 := b3.cell 3 _ rfl
    have cb4 := b3.cell 4 _ rfl
    have cb5 := b3.cell 5 _ rfl
    have fb0 := b3.froz 0 (by simp)
    have fb1 := b3.froz 1 (by simp)
    have fb2 := b3.froz 2 (by simp)
    have fb3 := b3.froz 3 (by simp)
    have fb4 := b3.froz 4 (by simp)
    have fb5 := b3.froz 5 (by simp)
    have zb := b3.lt
    have cd0 := b4.cell 0 _ rfl
    have cd1 := b4.cell 1 _ rfl
    have fd0 := b4.froz 0 (by simp)
    have fd1 := b4.froz 1 (by simp)
    have zd := b4.lt
    have H1 := Lib.hid b3
    have H2 := Lib.hid b4
    clear b3 b4
    go_wp2_with fail
    have ho := out8 H1.out H2.out (by omega) (.int .i64 r0) (.bool r1) (.int .i64 r2) (.int .i64 r3) (.int .i64 r4) (.int .i64 r5) (.int .i64 0) (.slice A2 m2 c2)
    have hb := below_out8 HB1.out (b := w.heap.size + 1 + 1 + 1) (b' := w.heap.size + 1 + 1 + 1 + 1) (by omega) (by omega) (.int .i64 r0) (.bool r1) (.int .i64 r2) (.int .i64 r3) (.int .i64 r4) (.int .i64 r5) (.int .i64 0) (.slice A2 m2 c2)
    have k1 := ho.1
    have k2 := ho.2
    clear ho
    have e0 := k1.cell 0 _ rfl
    have e1 := k1.cell 1 _ rfl
    have e2 := k1.cell 2 _ rfl
    have e3 := k1.cell 3 _ rfl
    have e4 := k1.cell 4 _ rfl
    have e5 := k1.cell 5 _ rfl
    have g0 := k2.cell 0 _ rfl
    have g1 := k2.cell 1 _ rfl
    clear k1 k2
    have hz := (HW.out.put6 (b := w.heap.size + 1 + 1 + 1) (by have := HZ.out; simp <;> omega) (.int .i64 r0) (.bool r1) (.int .i64 r2) (.int .i64 r3) (.int .i64 r4) (.int .i64 r5)).put2 (b := w.heap.size + 1 + 1 + 1 + 1) (by have := HZ.out; simp <;> omega) (.int .i64 0) (.slice A2 m2 c2)
    clear cb0 cb1 cb2 cb3 cb4 cb5 fb0 fb1 fb2 fb3 fb4 fb5 cd0 cd1 fd0 fd1 zb zd H1 H2 HB1 HS HG HH HW
    generalize World.setCell _ _ _ = WZ at e0 e1 e2 e3 e4 e5 g0 g1 hb hz ⊢
    exact bodyPost_ret (v := .tuple #[.agg #[.int .i64 r0, .bool r1, .int .i64 r2, .int .i64 r3, .int .i64 r4, .int .i64 r5], .agg #[.int .i64 0, .slice A2 m2 c2], .bool ch]) (by simp [results, Try.results54, go_sem, e0, e1, e2, e3, e4, e5, g0, g1]) rfl (⟨A2, m2, c2, rfl, fun hch => (HQ.out hch _ hz).mono (by have := HZ.out; simp <;> omega), hb⟩)

end Go.Proofs.Ytnkecjjfbllgdaa
