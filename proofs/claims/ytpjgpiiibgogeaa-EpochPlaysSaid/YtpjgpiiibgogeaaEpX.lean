/- The law's run: a call that is stepped alone till it returns. -/
import Derived.Test.YtpjgpiiibgogeaaEpW
namespace Go.Proofs.Ytpjgpiiibgogeaa
open Go.RowKit
set_option maxRecDepth 100000
set_option linter.unusedVariables false

theorem off_put4a {S : List Nat} {w w' : World} (h : Off S w w') {r : Nat} (hr : r ∈ S) (v0 v1 v2 v3 : Value) (o : Obj) : Off S w (((((w'.setCell ⟨r, 0, none⟩ v0).setCell ⟨r, 1, none⟩ v1).setCell ⟨r, 2, none⟩ v2).setCell ⟨r, 3, none⟩ v3).alloc o) := (off_put4 h hr v0 v1 v2 v3).alloc o
section
variable {w0 w w' : World} {x W k : Nat} {X X' S : List Nat} {s : EpV}
set_option maxHeartbeats 6400000 in
theorem erunC (h : EpC w0 w x W X k s) (hk : k < 1152921504606846976) (i : Nat) (hi : i < W) (op : Nat) (t : Int) (h1 : 1 ≤ op) (h5 : op ≤ 5) (hc : checkE (s.wk i) op = 0) :
    Calls Try.prog 31 #[PV x, IV i, .int .u8 (op : Int), .int .i64 t] w fun e w' => ∃ A c q s' k', e = .returned (.tuple #[.agg #[.bool q.d, .int .i64 (q.e : Int), .int .i64 q.n, .slice A q.th.length c], .bool true]) ∧
      EpC w0 w' x W (thX A ++ X) k' s' ∧ k' ≤ k + 100 ∧ FinP W i op t s q s' ∧ OwnC w' w.heap.size TI 1 A q.th.length c (thI q.th) ∧ FrX w0.heap.size X w w' := by
  have e0 := h.newX RB
  have h64 := h.w64
  have HS := Lib.hid (estartC e0 i hi op t h1 h5 hc)
  have hal := AlP.start h.inv hi h1 h5 hc t
  have KR := Lib.hid (BlkL.new w [.bool false, .int .i64 0, .int .i64 0, .slice none 0 0] 37)
  have HX := Lib.hid (And.intro h.hX h.bel)
  have HAL := Lib.hid hal
  clear h e0 hc hal
  go_enter Try.func31, Try.ntmps31
  go_wp2_with fail
  with_reducible refine HS.out.mono ?_
  rintro e w1 ⟨rfl, c1, f1⟩
  have C1 := Lib.hid c1
  have F1 := Lib.hid ((FrX.of_below (B := w0.heap.size) (X := X) ((Below.refl w.heap.size w).alloc (Nat.le_refl _) RB)).trans (f1.weak (X' := X) (fun y hy => List.mem_cons_of_mem _ hy)))
  have K1 := Lib.hid (f1.blk KR.out (.inr (by simp)))
  clear c1 f1 HS KR
  go_wp2
  go_loopw [19] (fun jv wr => ∃ (j : Nat) (sj : EpV) (rem : Nat), jv = .int .i64 (j : Int) ∧ j + rem ≤ W + 2 ∧ AlP W i op t s sj rem ∧ EpC w0 wr x W (w.heap.size :: X) (k + j) sj ∧ FrX w0.heap.size X w wr ∧ BlkL wr w.heap.size [.bool false, .int .i64 0, .int .i64 0, .slice none 0 0]) (fun jv _ => 100 - (intOf jv).toNat)
  case atStart => exact ⟨0, _, _, rfl, by omega, HAL.out, C1.out, F1.out, K1.out⟩
  case round =>
    obtain ⟨j, sj, rem, rfl, hjr, hal, hcj, hfj, hkj⟩ := hrel
    have hpos := hal.pos
    have hp := hal.isEN
    have hnx := hal.next hi
    have j2 : (j : Int) < 100 := by omega
    generalize htt : stepE W sj i = tt at hnx
    obtain ⟨⟨qd, qe, qn, qth⟩, ts, ty⟩ := tt
    simp only at hnx
    have HST := Lib.hid (estepC hcj (by omega) i hi hp _ htt)
    have HJ := Lib.hid (And.intro hcj.hX (And.intro hfj hkj))
    have hrl := hkj.lt
    have HNX := Lib.hid hnx
    clear hal hcj hfj hkj hnx htt hp C1 F1 K1 HAL
    go_wp2_with fail
    with_reducible refine HST.out.mono ?_
    rintro e w6 ⟨A, c, rfl, c6, o6, f6⟩
    have c6 : EpC w0 w6 x W (thX A ++ w.heap.size :: X) (k + j + 1) (ts.nx i ty) := c6
    have kr6 := f6.blk HJ.out.2.2 (.inr (by simp))
    have z0 := kr6.cell 0 _ rfl
    have z1 := kr6.cell 1 _ rfl
    have z2 := kr6.cell 2 _ rfl
    have z3 := kr6.cell 3 _ rfl
    have y0 := kr6.froz 0 (by simp)
    have y1 := kr6.froz 1 (by simp)
    have y2 := kr6.froz 2 (by simp)
    have y3 := kr6.froz 3 (by simp)
    have zl := kr6.lt
    have HALL := Lib.hid (And.intro c6 (And.intro o6 (And.intro f6 kr6)))
    clear c6 o6 f6 kr6 HST
    rcases HNX.out with ⟨hd, hfin⟩ | ⟨hq, rem', hrem, hal2⟩
    · subst hd
      have HFIN := Lib.hid hfin
      clear hfin
      go_wp2
      obtain ⟨c6, o6, f6, kr6⟩ := HALL.out
      have hp := off_put4a (Off.refl [w.heap.size] w6) (r := w.heap.size) (by simp) (.bool true) (.int .i64 (qe : Int)) (.int .i64 qn) (.slice A qth.length c) (.cells #[.bool true, .int .i64 (qe : Int), .int .i64 qn, .slice A qth.length c] 37)
      have kf := (kr6.put4 (.bool true) (.int .i64 (qe : Int)) (.int .i64 qn) (.slice A qth.length c)).alloc (.cells #[.bool true, .int .i64 (qe : Int), .int .i64 qn, .slice A qth.length c] 37)
      have q0 := kf.cell 0 _ rfl
      have q1 := kf.cell 1 _ rfl
      have q2 := kf.cell 2 _ rfl
      have q3 := kf.cell 3 _ rfl
      have hw0 : w0.heap.size ≤ w.heap.size := HX.out.2.size
      have hXn : w.heap.size ∉ X := fun hm => by have := HX.out.1 _ hm; omega
      have hs1 := HJ.out.2.1.size
      refine bodyPost_ret (v := .tuple #[.agg #[.bool true, .int .i64 (qe : Int), .int .i64 qn, .slice A qth.length c], .bool true]) ?_ ?_ ?_
      · simp [results, Try.results31, go_sem, q0, q1, q2, q3]
      · rfl
      · refine ⟨A, c, ⟨true, qe, qn, qth⟩, _, _, rfl, ((c6.putX hp (fun y hy => ?_)).weak (fun y hy => ?_)), ?_, HFIN.out, (o6.off hp (fun a ha hm => ?_)).lower hs1, HJ.out.2.1.trans ((f6.weak (X' := X) (fun y hy => List.mem_cons_of_mem _ hy)).trans ⟨_, hp, fun y hy => ?_⟩)⟩
        · simp only [List.mem_cons, List.not_mem_nil, or_false] at hy; subst hy; exact ⟨by simp, hw0⟩
        · rcases List.mem_append.1 hy with e | e <;> simp [e]
        · omega
        · have := (o6.lt a ha).1
          simp only [List.mem_cons, List.not_mem_nil, or_false] at hm
          omega
        · simp only [List.mem_cons, List.not_mem_nil, or_false] at hy; subst hy; exact ⟨hw0, hXn⟩
    · have hq' : qd = false ∧ qe = 0 ∧ qn = 0 ∧ qth = [] := by
        injection hq with a b c d; exact ⟨a, b, c, d⟩
      obtain ⟨rfl, rfl, rfl, rfl⟩ := hq'
      have HAL2 := Lib.hid hal2
      have hbal := (Below.refl w6.heap.size w6).alloc (Nat.le_refl _) (.cells #[.bool false, .int .i64 0, .int .i64 0, .slice A 0 c] 37)
      have HEND := Lib.hid (And.intro ((HALL.out.1.weak (X' := w.heap.size :: X) (fun y hy => List.mem_append_right _ hy)).below hbal) (And.intro ((HJ.out.2.1.trans (HALL.out.2.2.1.weak (X' := X) (fun y hy => List.mem_cons_of_mem _ hy))).trans (FrX.of_below hbal)) (HALL.out.2.2.2.below hbal)))
      clear hal2 hbal hq
      simp only [List.length_nil]
      go_wp2
      go_roundw
      case rel => exact ⟨j + 1, _, rem', by go_num, by omega, HAL2.out, HEND.out.1, HEND.out.2.1, HEND.out.2.2⟩
      case measure => simp [intOf]; omega
theorem erunN (h : EpC w0 w x W X k s) (i : Nat) (hi : i < W) (op : Nat) (t : Int) (h1 : 1 ≤ op) (h5 : op ≤ 5) (hc : checkE (s.wk i) op ≠ 0) :
    Calls Try.prog 31 #[PV x, IV i, .int .u8 (op : Int), .int .i64 t] w fun e w' => e = .returned (.tuple #[.agg #[.bool false, .int .i64 0, .int .i64 0, .slice none 0 0], .bool false]) ∧ EpC w0 w' x W X k s ∧ FrX w0.heap.size X w w' := by
  have e0 := h.newX RB
  have HS := Lib.hid (estartN e0 i hi op t h1 h5 hc)
  have KR := Lib.hid (BlkL.new w [.bool false, .int .i64 0, .int .i64 0, .slice none 0 0] 37)
  have HX := Lib.hid (And.intro h.hX h.bel)
  have hcn : ¬ ((checkE (s.wk i) op : Nat) : Int) = 0 := by omega
  clear h e0 hc
  generalize checkE (s.wk i) op = ce at *
  go_enter Try.func31, Try.ntmps31
  go_wp2_with fail
  with_reducible refine HS.out.mono ?_
  rintro e w6 ⟨rfl, c1, f1⟩
  have kr6 := f1.blk KR.out (.inr (by simp))
  have z0 := kr6.cell 0 _ rfl
  have z1 := kr6.cell 1 _ rfl
  have z2 := kr6.cell 2 _ rfl
  have z3 := kr6.cell 3 _ rfl
  have y0 := kr6.froz 0 (by simp)
  have y1 := kr6.froz 1 (by simp)
  have y2 := kr6.froz 2 (by simp)
  have y3 := kr6.froz 3 (by simp)
  have zl := kr6.lt
  have HALL := Lib.hid (And.intro c1 (And.intro f1 kr6))
  clear c1 f1 kr6 HS KR
  go_wp2
  obtain ⟨c6, f6, kr6⟩ := HALL.out
  have hp := off_put4 (Off.refl [w.heap.size] w6) (r := w.heap.size) (by simp) (.bool false) (.int .i64 0) (.int .i64 0) (.slice none 0 0)
  have kf := kr6.put4 (.bool false) (.int .i64 0) (.int .i64 0) (.slice none 0 0)
  have q0 := kf.cell 0 _ rfl
  have q1 := kf.cell 1 _ rfl
  have q2 := kf.cell 2 _ rfl
  have q3 := kf.cell 3 _ rfl
  have hw0 : w0.heap.size ≤ w.heap.size := HX.out.2.size
  have hXn : w.heap.size ∉ X := fun hm => by have := HX.out.1 _ hm; omega
  refine bodyPost_ret (v := .tuple #[.agg #[.bool false, .int .i64 0, .int .i64 0, .slice none 0 0], .bool false]) ?_ ?_ ?_
  · simp [results, Try.results31, go_sem, q0, q1, q2, q3]
  · rfl
  · refine ⟨rfl, (c6.putX hp (fun y hy => ?_)).weak (fun y hy => List.mem_cons_of_mem _ hy), (FrX.of_below ((Below.refl w.heap.size w).alloc (Nat.le_refl _) RB)).trans ((f6.weak (X' := X) (fun y hy => List.mem_cons_of_mem _ hy)).trans ⟨_, hp, fun y hy => ?_⟩)⟩
    · simp only [List.mem_cons, List.not_mem_nil, or_false] at hy; subst hy; exact ⟨by simp, hw0⟩
    · simp only [List.mem_cons, List.not_mem_nil, or_false] at hy; subst hy; exact ⟨hw0, hXn⟩
end
end Go.Proofs.Ytpjgpiiibgogeaa
