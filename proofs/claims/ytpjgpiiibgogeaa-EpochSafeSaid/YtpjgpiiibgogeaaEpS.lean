/- Contract: Step of an Epochs. -/
import Derived.Test.YtpjgpiiibgogeaaEpJ
import Derived.Laws.EntriesVeiled
namespace Go.Proofs.Ytpjgpiiibgogeaa
open Go.RowKit
set_option maxRecDepth 100000
set_option linter.unusedVariables false

section
variable {w w' : World} {B x b bw wb W : Nat} {X : List Nat} {k : Nat} {s : EpV} {fv : Nat → Value} {rA : Nat → Option Addr} {rc : Nat → Nat} {ring : List Value} {p : Nat} {v : Value}
/-- How a step ends. -/
def EsE (w : World) (B x b bw wb W : Nat) (X : List Nat) (k : Nat) (i : Nat) (t : StE) (e : Ending) (w' : World) : Prop :=
  ∃ A c fv' rA' rc' ring', e = .returned (.tuple #[RsV t.q A c, .int .i64 0]) ∧ EpR w' B x b bw wb W (thX A ++ X) (k + 1) (t.s.nx i t.y) fv' rA' rc' ring' ∧ OwnC w' w.heap.size TI 1 A t.q.th.length c (thI t.q.th) ∧ FrX B X w w'
set_option maxHeartbeats 6400000 in
theorem estep_gen (h : EpR w B x b bw wb W X k s fv rA rc ring) (i : Nat) (hi : i < W) (hp : isEN (s.wk i).nx = true) (K : Nat) (cs : Array Value) (hf : fv i = .func (.func K) #[] cs) (hK : ∀ w, (callFunc K cs).run Try.prog w = .ok (.enter K cs) w) (t : StE)
    (hc : Calls Try.prog K cs (w.alloc RB) (ClR (w.alloc RB) B x b bw wb W (w.heap.size :: X) k fv i t)) :
    Calls Try.prog 18 #[PV x, IV i] w (EsE w B x b bw wb W X k i t) := by
  obtain ⟨⟨qd, qe, qn, qth⟩, ts, ty⟩ := t
  have hb0 : Below w.heap.size w (w.alloc RB) := (Below.refl w.heap.size w).alloc (Nat.le_refl _) _
  have e0 := h.reX (X' := w.heap.size :: X) hb0 (fun y hy => by rcases List.mem_cons.1 hy with e | e; exact .inr ⟨by omega, by rw [e]; simp⟩; exact .inl e)
  have HW := Lib.hid (isW_any e0 (i : Int))
  rw [show inB (i : Int) W = true from inB_iff.mpr (by omega)] at HW
  have HP := Lib.hid (epend_any e0 i hi)
  rw [hp] at HP
  have HC := Lib.hid hc
  have KR := Lib.hid (BlkL.new w [.bool false, .int .i64 0, .int .i64 0, .slice none 0 0] 37)
  have c1 := h.c1
  have k0 := h.k0 hi
  rw [hf] at k0
  have lw := h.lts.2.2.2
  have lx := h.lts.1
  have j0 : (0 : Int) ≤ (i : Int) := by omega
  have j1 : (i : Int) < (W : Int) := by omega
  have H := Lib.hid h
  have HB0 := Lib.hid hb0
  clear h e0 hb0 hf hp hc
  go_enter Try.func18, Try.ntmps18
  go_wp2_with fail
  with_reducible refine HW.out.mono ?_
  rintro e w1 ⟨rfl, hw⟩
  subst hw
  go_wp2_with fail
  with_reducible refine HP.out.mono ?_
  rintro e w1 ⟨rfl, hw⟩
  subst hw
  go_wp2_with fail
  with_reducible refine HC.out.mono ?_
  rintro e w6 ⟨A, c, rA', rc', ring', f, rfl, h6, hcl6, ho6, hfr6⟩
  simp only at h6 hcl6 ho6
  have hf6 := hcl6.isf
  have hx1 : w.heap.size ∈ thX A ++ w.heap.size :: X := by simp
  have kr6 := hfr6.blk KR.out (.inr (by simp))
  have c16 := h6.c1
  have u6 := h6.k0 hi
  have f6 := h6.fr (i := i * 3) (by omega)
  have lw6 := h6.lts.2.2.2
  have lx6 := h6.lts.1
  have z0 := kr6.cell 0 _ rfl
  have z1 := kr6.cell 1 _ rfl
  have z2 := kr6.cell 2 _ rfl
  have z3 := kr6.cell 3 _ rfl
  have y0 := kr6.froz 0 (by simp)
  have y1 := kr6.froz 1 (by simp)
  have y2 := kr6.froz 2 (by simp)
  have y3 := kr6.froz 3 (by simp)
  have zl := kr6.lt
  have hn1 : w.heap.size ≠ wb := fun e => h6.nX _ hx1 (by simp [e])
  have HALL := Lib.hid (And.intro h6 (And.intro hcl6 (And.intro kr6 (And.intro ho6 hfr6))))
  have HX1 := Lib.hid hx1
  clear h6 hcl6 ho6 hfr6 kr6 HC HW HP hx1
  unfold RsV
  rcases hf6 with ⟨rfl, _⟩ | ⟨⟨K2, f1, f2, rfl⟩, _⟩
  · go_wp2
    obtain ⟨h6, hcl6, kr6, ho6, hfr6⟩ := HALL.out
    have hwS := (Off.refl [wb] w6).setCell (p := ⟨wb, i * 3, none⟩) (by simp) (.nilFunc)
    have hrw : w.heap.size ∉ [wb] := by simpa using hn1
    have hp := off_put4 (Off.refl [w.heap.size] (w6.setCell ⟨wb, i * 3, none⟩ (.nilFunc))) (r := w.heap.size) (by simp) (.bool qd) (.int .i64 (qe : Int)) (.int .i64 qn) (.slice A qth.length c)
    have kf := ((kr6.off hwS hrw).put4 (.bool qd) (.int .i64 (qe : Int)) (.int .i64 qn) (.slice A qth.length c)).alloc (.cells #[.bool qd, .int .i64 (qe : Int), .int .i64 qn, .slice A qth.length c] 37)
    have e8 := (h6.setNext hi hcl6).offX hp (by simp only [List.mem_cons, List.not_mem_nil, or_false]; rintro y rfl; exact HX1.out)
    have hal := (Below.refl _ ((((((w6.setCell ⟨wb, i * 3, none⟩ (.nilFunc)).setCell ⟨w.heap.size, 0, none⟩ (.bool qd)).setCell ⟨w.heap.size, 1, none⟩ (.int .i64 (qe : Int))).setCell ⟨w.heap.size, 2, none⟩ (.int .i64 qn)).setCell ⟨w.heap.size, 3, none⟩ (.slice A qth.length c)))).alloc (Nat.le_refl _) (.cells #[.bool qd, .int .i64 (qe : Int), .int .i64 qn, .slice A qth.length c] 37)
    have e9 := e8.reX (X' := thX A ++ X) hal (fun y hy => .inl (by rcases List.mem_append.1 hy with e | e <;> simp [e]))
    have o9 := ((ho6.off hwS (fun a ha hm => by
      have := h6.nX a.block (by rw [ha]; simp [thX])
      simp only [List.mem_cons, List.not_mem_nil, or_false] at hm this
      exact this (by simp [hm]))).off hp (fun a ha hm => by
      have := (ho6.lt a ha).1
      simp only [List.mem_cons, List.not_mem_nil, or_false, World.size_alloc] at hm this
      omega)).below hal
    have hX := H.out.hX
    have f9 : FrX B X w _ := (((FrX.of_below HB0.out).trans (hfr6.weak (X' := X) (fun y hy => List.mem_cons_of_mem _ hy))).trans (H.out.frwb hwS)).trans ((show FrX B X _ _ from ⟨_, hp, fun y hy => by
      simp only [List.mem_cons, List.not_mem_nil, or_false] at hy
      subst hy
      exact ⟨H.out.le_, fun hm => by have := hX _ hm; omega⟩⟩).trans (FrX.of_below hal))
    have q0 := kf.cell 0 _ rfl
    have q1 := kf.cell 1 _ rfl
    have q2 := kf.cell 2 _ rfl
    have q3 := kf.cell 3 _ rfl
    refine bodyPost_ret (v := .tuple #[.agg #[.bool qd, .int .i64 (qe : Int), .int .i64 qn, .slice A qth.length c], .int .i64 0]) ?_ ?_ ?_
    · simp [results, Try.results18, go_sem, q0, q1, q2, q3]
    · rfl
    · exact ⟨A, c, _, rA', rc', ring', rfl, e9, o9.lower (by simp), f9⟩
  · go_wp2
    obtain ⟨h6, hcl6, kr6, ho6, hfr6⟩ := HALL.out
    have hwS := (Off.refl [wb] w6).setCell (p := ⟨wb, i * 3, none⟩) (by simp) (.func K2 f1 f2)
    have hrw : w.heap.size ∉ [wb] := by simpa using hn1
    have hp := off_put4 (Off.refl [w.heap.size] (w6.setCell ⟨wb, i * 3, none⟩ (.func K2 f1 f2))) (r := w.heap.size) (by simp) (.bool qd) (.int .i64 (qe : Int)) (.int .i64 qn) (.slice A qth.length c)
    have kf := ((kr6.off hwS hrw).put4 (.bool qd) (.int .i64 (qe : Int)) (.int .i64 qn) (.slice A qth.length c)).alloc (.cells #[.bool qd, .int .i64 (qe : Int), .int .i64 qn, .slice A qth.length c] 37)
    have e8 := (h6.setNext hi hcl6).offX hp (by simp only [List.mem_cons, List.not_mem_nil, or_false]; rintro y rfl; exact HX1.out)
    have hal := (Below.refl _ ((((((w6.setCell ⟨wb, i * 3, none⟩ (.func K2 f1 f2)).setCell ⟨w.heap.size, 0, none⟩ (.bool qd)).setCell ⟨w.heap.size, 1, none⟩ (.int .i64 (qe : Int))).setCell ⟨w.heap.size, 2, none⟩ (.int .i64 qn)).setCell ⟨w.heap.size, 3, none⟩ (.slice A qth.length c)))).alloc (Nat.le_refl _) (.cells #[.bool qd, .int .i64 (qe : Int), .int .i64 qn, .slice A qth.length c] 37)
    have e9 := e8.reX (X' := thX A ++ X) hal (fun y hy => .inl (by rcases List.mem_append.1 hy with e | e <;> simp [e]))
    have o9 := ((ho6.off hwS (fun a ha hm => by
      have := h6.nX a.block (by rw [ha]; simp [thX])
      simp only [List.mem_cons, List.not_mem_nil, or_false] at hm this
      exact this (by simp [hm]))).off hp (fun a ha hm => by
      have := (ho6.lt a ha).1
      simp only [List.mem_cons, List.not_mem_nil, or_false, World.size_alloc] at hm this
      omega)).below hal
    have hX := H.out.hX
    have f9 : FrX B X w _ := (((FrX.of_below HB0.out).trans (hfr6.weak (X' := X) (fun y hy => List.mem_cons_of_mem _ hy))).trans (H.out.frwb hwS)).trans ((show FrX B X _ _ from ⟨_, hp, fun y hy => by
      simp only [List.mem_cons, List.not_mem_nil, or_false] at hy
      subst hy
      exact ⟨H.out.le_, fun hm => by have := hX _ hm; omega⟩⟩).trans (FrX.of_below hal))
    have q0 := kf.cell 0 _ rfl
    have q1 := kf.cell 1 _ rfl
    have q2 := kf.cell 2 _ rfl
    have q3 := kf.cell 3 _ rfl
    refine bodyPost_ret (v := .tuple #[.agg #[.bool qd, .int .i64 (qe : Int), .int .i64 qn, .slice A qth.length c], .int .i64 0]) ?_ ?_ ?_
    · simp [results, Try.results18, go_sem, q0, q1, q2, q3]
    · rfl
    · exact ⟨A, c, _, rA', rc', ring', rfl, e9, o9.lower (by simp), f9⟩
end
end Go.Proofs.Ytpjgpiiibgogeaa
