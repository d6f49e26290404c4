/- Run of any program. -/
import Derived.Test.YtifldnkcheobhaaDoorCaJ
namespace Go.Proofs.YtifldnkcheobhaaDoor
open Go.RowKit
set_option maxRecDepth 100000
set_option linter.unusedVariables false
set_option linter.unusedSimpArgs false
set_option maxHeartbeats 4000000

theorem ChkV.ok {p : List (List ActV)} (h : ChkV p 0) (hr : ProgR p) : ProgOk p := by
  rcases h with ⟨_, h⟩ | ⟨_, _, h⟩ | ⟨_, _, _, h⟩ | ⟨h1, h2, h3, _⟩
  · omega
  · omega
  · omega
  · simp only [longB, Bool.or_eq_false_iff, decide_eq_false_iff_not] at h1
    refine ⟨by omega, List.length_pos_iff.2 h2, fun i f hf => ⟨?_, fun x hx => ⟨h3 i f x hf hx, ((hr.2 i f hf).2 x hx).2⟩⟩⟩
    have := List.any_eq_false.1 h1.2 f (List.mem_of_getElem? hf)
    simpa using this
/-- What Run of a program gives. -/
def runP (p : List (List ActV)) : RunR := runV p p.length 0 none ⟨4096, []⟩
/-- The answer of Run. -/
def RunA (w : World) (p : List (List ActV)) (e : Ending) (w' : World) : Prop :=
  ∃ r : Nat, ChkV p r ∧ Below w.heap.size w w' ∧ ((r ≠ 0 ∧ e = .returned (.tuple #[.slice none 0 0, .agg #[.int .u8 0, .int .i64 0], .int .i64 (r : Int)])) ∨
    (r = 0 ∧ ∃ A c, e = .returned (.tuple #[.slice A (runP p).st.marks.length c, .agg #[.int .u8 ((noneV (runP p).out).1 : Int), .int .i64 (noneV (runP p).out).2], .int .i64 0]) ∧ OwnS w' w.heap.size 3 A (runP p).st.marks.length c (FMk (runP p).st.marks)))
theorem results_run (tmps : Array Value) (w : World) (b : Nat) (x0 x1 v2 v4 : Value) (h3 : tmps[3]? = some (.pointer (some ⟨b, 0, none⟩))) (h2 : tmps[2]? = some v2) (h4 : tmps[4]? = some v4) (hb : BlkL w b [x0, x1]) :
    (results Tryd.f13 tmps).run Tryd.prog w = .ok (.tuple #[v2, .agg #[x0, x1], v4]) w := by
  have z0 := hb.cell 0 _ rfl
  have z1 := hb.cell 1 _ rfl
  simp [results, Tryd.results13, go_sem, h3, h2, h4, z0, z1]
theorem runA_any {w0 : World} (HT : TellC w0) (HF : FailC w0) (w : World) (Pa : Value) (p : List (List ActV)) (hg : Glb w0 w) (h6 : 6 ≤ w.heap.size) (h : ProgQ w w.heap.size Pa p) (hr : ProgR p) :
    Calls Tryd.prog 13 #[Pa] w (RunA w p) := by
  have hq0 := h
  obtain ⟨PA, pc, rfl, -, -⟩ := hq0
  have hb1 := (Below.refl w.heap.size w).alloc (Nat.le_refl _) (.cells #[.int .u8 0, .int .i64 0] 26)
  have HB1 := Lib.hid hb1
  have HE0 := Lib.hid (BlkL.new w [.int .u8 0, .int .i64 0] 26)
  have HC := Lib.hid (check_any (w.alloc (.cells #[.int .u8 0, .int .i64 0] 26)) w.heap.size (.slice PA p.length pc) p (h.below hb1) (by simp) hr)
  have HQ := Lib.hid h
  have HR := Lib.hid hr
  have HG := Lib.hid hg
  clear hb1 h hr hg
  go_enter Tryd.func13, Tryd.ntmps13
  go_wp2_with fail
  with_reducible refine HC.out.mono ?_
  rintro e w2 ⟨r, rfl, hv, hf⟩
  have hbl2 : Below w.heap.size w w2 := HB1.out.trans (hf.below (by simp) (by simp))
  have hE2 := HE0.out.off hf (by simp)
  have HV := Lib.hid hv
  have HB2 := Lib.hid hbl2
  have HE2 := Lib.hid hE2
  clear hv hf hbl2 hE2
  rcases Nat.eq_zero_or_pos r with h0 | h0
  · subst h0
    have hpo := HV.out.ok HR.out
    have HPO := Lib.hid hpo
    have hbm := HB2.out.size
    have bl3 := (Below.refl w2.heap.size w2).alloc (Nat.le_refl _) (.cells #[.slice PA p.length pc, .int .i64 4096, .slice none 0 0] 77)
    have bl3w : Below w.heap.size w (w2.alloc (.cells #[.slice PA p.length pc, .int .i64 4096, .slice none 0 0] 77)) := HB2.out.trans (bl3.mono hbm)
    have hcw : CaW (w2.alloc (.cells #[.slice PA p.length pc, .int .i64 4096, .slice none 0 0] 77)) w.heap.size w2.heap.size (.slice PA p.length pc) none 0 ⟨4096, []⟩ :=
      ⟨BlkL.new w2 [.slice PA p.length pc, .int .i64 4096, .slice none 0 0] _, OwnS.nil _ _ _, by simp [bkV], by simp; omega, by simp⟩
    have HRUN : Hid (Calls Tryd.prog 27 #[.pointer (some ⟨w2.heap.size, 0, none⟩), .int .i64 0, .pointer none] (w2.alloc (.cells #[.slice PA p.length pc, .int .i64 4096, .slice none 0 0] 77)) fun e w' => ∃ o, e = .returned o ∧ RunE w0 (w2.alloc (.cells #[.slice PA p.length pc, .int .i64 4096, .slice none 0 0] 77)) w.heap.size w2.heap.size (.slice PA p.length pc) none none .nilIface .nilIface (runP p) o w') :=
      Lib.hid (runC_all hpo HT HF p.length _ w.heap.size w2.heap.size 0 (.slice PA p.length pc) none ⟨4096, []⟩ 0 none .nilIface .nilIface none (HG.out.below h6 bl3w) h6 hbm hcw ((HQ.out.below bl3w).prog hpo.pos) hpo.pos (by omega) ⟨rfl, rfl⟩)
    have HBL3 := Lib.hid bl3w
    have HE3 := Lib.hid (HE2.out.below bl3)
    have hbl : w.heap.size < w2.heap.size := HE2.out.lt
    clear hpo bl3 bl3w hcw
    go_wp2_with fail
    with_reducible refine HRUN.out.mono ?_
    rintro e w4 ⟨o, rfl, hE⟩
    obtain ⟨A4, c4, v4, k1, k2, k3, -, -, k6, k7⟩ := hE
    have bl4 : Below w.heap.size w w4 := HBL3.out.trans (k6.below (by simp; omega) (by simp [bkV]; omega))
    have hE4 := HE3.out.off k6 (by simp [bkV]; omega)
    have HT4 := Lib.hid (HT w4 o (runP p).out (HG.out.below h6 bl4) k2)
    have K1 := Lib.hid k1
    have HE4 := Lib.hid hE4
    have HB4 := Lib.hid bl4
    have hA4 : ∀ y ∈ bkV A4, w2.heap.size < y := fun y hy => (k7 y hy).elim (by simp [bkV]) (fun q => by simp only [World.size_alloc] at q; omega)
    have HA4 := Lib.hid hA4
    clear k1 k2 k3 k6 k7 bl4 hE4 hA4
    go_wp2_with fail
    with_reducible refine HT4.out.mono ?_
    rintro e w5 ⟨rfl, hf5⟩
    have k1 := K1.out.off hf5 (by simp) (by simp)
    have hE5 := HE4.out.off hf5 (by simp)
    have bl5 : Below w.heap.size w w5 := HB4.out.trans (hf5.below (by have := HB4.out.size; omega) (by simp))
    obtain ⟨en, hen⟩ : ∃ en, noneV (runP p).out = en := ⟨_, rfl⟩
    have HEN := Lib.hid hen
    rw [hen]
    obtain ⟨e1, e2⟩ := en
    simp only
    have bl6 := (Below.refl w5.heap.size w5).alloc (Nat.le_refl _) (.cells #[.int .u8 (e1 : Int), .int .i64 e2] 26)
    have K6 := Lib.hid (k1.below bl6.drew)
    have E6 := Lib.hid (hE5.below bl6.drew)
    have B6 := Lib.hid (bl5.trans (bl6.drew.mono (by have := bl5.size; omega)))
    have HA5 : Hid (∀ y ∈ bkV A4, y ≠ w.heap.size) := Lib.hid (fun y hy => by have := HA4.out y hy; omega)
    have E5 := hE5.below bl6
    have K5 := (k1.below bl6).blk
    have zz0 := E5.cell 0 _ rfl
    have zz1 := E5.cell 1 _ rfl
    have yy0 := E5.froz 0 (by simp)
    have yy1 := E5.froz 1 (by simp)
    have zzl := E5.lt
    have mm2 := K5.cell 2 _ rfl
    have mml := K5.lt
    have E5H := Lib.hid E5
    have K5H := Lib.hid (k1.below bl6)
    have B5H := Lib.hid (bl5.trans (bl6.mono (by have := bl5.size; omega)))
    clear E5 K5
    have m2 := K6.out.blk.cell 2 _ rfl
    have ml := K6.out.blk.lt
    have z0 := E6.out.cell 0 _ rfl
    have z1 := E6.out.cell 1 _ rfl
    have y0 := E6.out.froz 0 (by simp)
    have y1 := E6.out.froz 1 (by simp)
    have zl := E6.out.lt
    have hne : ¬ w2.heap.size = w.heap.size := by omega
    clear k1 hE5 bl5 bl6 hen hf5
    have bx := (BlkL.new w5 [.int .u8 (e1 : Int), .int .i64 e2] 26).drew
    have x0 := bx.cell 0 _ rfl
    have x1 := bx.cell 1 _ rfl
    go_wp2
    clear bx
    go_region
    go_wp2
    have hof : Off [w.heap.size] (w5.alloc (.cells #[.int .u8 (e1 : Int), .int .i64 e2] 26)) (((w5.alloc (.cells #[.int .u8 (e1 : Int), .int .i64 e2] 26)).setCell ⟨w.heap.size, 0, none⟩ (.int .u8 (e1 : Int))).setCell ⟨w.heap.size, 1, none⟩ (.int .i64 e2)).drew :=
      (((Off.refl [w.heap.size] _).setCell (p := ⟨w.heap.size, 0, none⟩) (by simp) _).setCell (p := ⟨w.heap.size, 1, none⟩) (by simp) _).drew
    refine bodyPost_ret (v := .tuple #[.slice A4 (runP p).st.marks.length c4, .agg #[.int .u8 (e1 : Int), .int .i64 e2], .int .i64 0]) (results_run _ _ w.heap.size _ _ _ _ rfl rfl rfl ((E5H.out.set 0 (.int .u8 (e1 : Int)) (by simp)).set 1 (.int .i64 e2) (by simp)).drew) rfl ?_
    exact ⟨0, HV.out, (below_put2 B5H.out (Nat.le_refl _) _ _).drew, Or.inr ⟨rfl, A4, c4, by rw [HEN.out], K5H.out.own.off hof (fun y hy => by have := HA5.out y hy; simpa using this)⟩⟩
  · have hr0 : ((r : Int) == 0) = false := beq_eq_false_iff_ne.2 (by omega)
    have hr1 : ¬ (r : Int) = 0 := by omega
    have HNE : Hid (r ≠ 0) := Lib.hid (by omega)
    have e0 := HE2.out.cell 0 _ rfl
    have e1 := HE2.out.cell 1 _ rfl
    have f0 := HE2.out.froz 0 (by simp)
    have f1 := HE2.out.froz 1 (by simp)
    have hl := HE2.out.lt
    go_wp2
    exact bodyPost_ret (v := .tuple #[.slice none 0 0, .agg #[.int .u8 0, .int .i64 0], .int .i64 (r : Int)]) (results_run _ _ w.heap.size _ _ _ _ rfl rfl rfl ((HE2.out.set 0 (.int .u8 0) (by simp)).set 1 (.int .i64 0) (by simp))) rfl ⟨r, HV.out, below_put2 HB2.out (Nat.le_refl _) _ _, Or.inl ⟨HNE.out, rfl⟩⟩
end Go.Proofs.YtifldnkcheobhaaDoor
