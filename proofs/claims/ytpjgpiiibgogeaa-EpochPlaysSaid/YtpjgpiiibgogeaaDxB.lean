/- EpochPlays: the document's calls (second part), both sides, the walk. -/
import Derived.Test.YtpjgpiiibgogeaaDxA
import Derived.OwnWalk
import Derived.Test.YtpjgpiiibgogeaaEpY
import Derived.Deep.AppendLies
import Derived.Test.YtpjgpiiibgogeaaPkEArg
import Derived.Outline

/- The document's Epochs: Step of a Retire. -/
namespace Go.Proofs.Ytpjgpiiibgogeaa
open Go.RowKit
set_option maxRecDepth 100000
set_option linter.unusedVariables false

section
variable {w w' : World} {d db W : Nat} {E : Nat} {f : Nat → DkV} {S : List Nat}

/-- How it ends. -/
def ReE (w : World) (d db W E : Nat) (f : Nat → DkV) (i B : Nat) (gs : List (Int × Nat)) (qd : Bool) (qe qn : Int) (A : Option Addr) (l c : Nat) (w6 : World) : Prop :=
  qd = true ∧ qe = 0 ∧ qn = (E : Int) ∧ A = none ∧ l = 0 ∧ c = 0 ∧ ∃ g' c', DrS w6 d db W (E : Int) (updF f i { f i with A := some ⟨g', 0, none⟩, n := gs.length + 1, c := c', op := 0 }) ∧ OwnC w6 B TTh 2 (some ⟨g', 0, none⟩) (gs.length + 1) c' (GVs (gs ++ [((f i).t, E)])) ∧ (g' ∈ thX (f i).A ∨ w.heap.size < g') ∧ Off (db :: thX (f i).A) w w6
set_option maxHeartbeats 6400000 in
theorem dstep_retire (h : DrS w d db W (E : Int) f) (i : Nat) (hi : i < W) (hop : (f i).op = 3) (B : Nat) (gs : List (Int × Nat)) (hn : (f i).n = gs.length) (hrow : OwnC w B TTh 2 (f i).A (f i).n (f i).c (GVs gs)) (hl : gs.length < 4096) (hA : ∀ y ∈ thX (f i).A, y ≠ db ∧ y ≠ d) (hB : B ≤ w.heap.size) :
    Calls Try.prog 19 #[PV d, IV i] w (DtE w (ReE w d db W E f i B gs)) := by
  have hb0 := (Below.refl w.heap.size w).alloc (Nat.le_refl _) RD
  have HT := Lib.hid (there_any (h.below hb0) (i : Int))
  rw [show inB (i : Int) W = true from inB_iff.mpr (by omega)] at HT
  have KR := Lib.hid (BlkL.new w [.bool false, .int .i64 0, .int .i64 0, .slice none 0 0] 41)
  have k0 : w.cell? ⟨db, i * 7, none⟩ = some (.int .u8 ((f i).op : Int)) := h.k (c := 0) hi (by omega)
  have d0 : w.cell? ⟨d, 0, none⟩ = some (.int .i64 (E : Int)) := h.hd.cell 0 _ rfl
  have d1 : w.cell? ⟨d, 1, none⟩ = some (.slice (some ⟨db, 0, none⟩) W W) := h.hd.cell 1 _ rfl
  have lb := h.wk.lt
  have ld := h.hd.lt
  have hne := h.ne
  have hn1 : w.heap.size ≠ db := by omega
  have hn2 : w.heap.size ≠ d := by omega
  have j0 : (0 : Int) ≤ (i : Int) := by omega
  have j1 : (i : Int) < (W : Int) := by omega
  rw [hop] at k0
  have k5 : w.cell? ⟨db, i * 7 + 5, none⟩ = some (.slice (f i).A (f i).n (f i).c) := h.k (c := 5) hi (by omega)
  have f5 := h.fr (i := i) (c := 5) hi (by omega)
  have k3 : w.cell? ⟨db, i * 7 + 3, none⟩ = some (.int .i64 (f i).t) := h.k (c := 3) hi (by omega)
  rw [hn] at k5 hrow
  have z4 : ((3 : Nat) : Int) = 3 := rfl
  rw [z4] at k0
  have hbe : Below w.heap.size w ((w.alloc RD).alloc (.cells #[.int .i64 (f i).t, .int .i64 (E : Int)] 134)).drew := (hb0.alloc (by simp) _).drew
  have ho3 := hrow.off (Off.of_below (S := []) hbe) (by simp)
  have HO3 := Lib.hid ho3
  have HD3 := Lib.hid (h.below hbe)
  have HKR3 := Lib.hid ((KR.out.alloc (.cells #[.int .i64 (f i).t, .int .i64 (E : Int)] 134)).drew)
  have kt := (BlkL.new (w.alloc RD) [.int .i64 (f i).t, .int .i64 (E : Int)] 134).drew
  rw [World.size_alloc] at kt
  have KT := Lib.hid kt
  have hz3 : ((w.alloc RD).alloc (.cells #[.int .i64 (f i).t, .int .i64 (E : Int)] 134)).drew.heap.size = w.heap.size + 2 := by show ((w.alloc RD).alloc _).heap.size = _; simp
  have hB3 : B ≤ ((w.alloc RD).alloc (.cells #[.int .i64 (f i).t, .int .i64 (E : Int)] 134)).drew.heap.size := by omega
  have hm1 : gs.length + 1 ≤ maxLen := by unfold maxLen; omega
  have hm2 : (gs.length + 1) * 16 ≤ 140737488355328 := by omega
  have hAdb : db ∉ thX (f i).A := fun hm => (hA _ hm).1 rfl
  have hAd : d ∉ thX (f i).A := fun hm => (hA _ hm).2 rfl
  have lb3 : db < ((w.alloc RD).alloc (.cells #[.int .i64 (f i).t, .int .i64 (E : Int)] 134)).drew.heap.size := by omega
  have HBE := Lib.hid hbe
  have HLT := Lib.hid hrow.ltX
  clear h hop hb0 z4 hbe ho3 kt hrow hA hn
  generalize hfi : f i = fi at *
  have HFI := Lib.hid hfi
  clear hfi
  go_enter Try.func19, Try.ntmps19
  go_wp2_with fail
  with_reducible refine HT.out.mono ?_
  rintro e w1 ⟨rfl, hw⟩
  subst hw
  go_wp2_with fail
  go_region_law (first
    | (refine step_append_off rfl (.tmp 43) (.tmp 53) 127 rfl B TTh _ 2 16 Try.underlying127 thing_info rfl (by omega) fi.A gs.length fi.c _ rfl HO3.out (w.heap.size + 1) 1 [.int .i64 fi.t, .int .i64 (E : Int)] rfl rfl KT.out.cell (by simp [Value.oneCell']) hm1 hm2 hB3 ?_; intro g' c' w5 ho5 hf5 hg5; have u5 := (hf5.cell (p := ⟨db, i * 7 + 5, none⟩) lb3 hAdb).trans (HD3.out.k (c := 5) hi (by omega)); have f5' := (hf5.frozen (p := ⟨db, i * 7 + 5, none⟩) lb3 hAdb).trans (HD3.out.fr (c := 5) hi (by omega)); have lb5 : db < w5.heap.size := Nat.lt_of_lt_of_le lb3 hf5.size; have HO5 := Lib.hid ho5; have HF5 := Lib.hid hf5; have HG5 := Lib.hid hg5; clear ho5 hf5 hg5))
  all_goals
    have hd5 := (HD3.out.off HF5.out hAd hAdb).s5 hi (some ⟨g', 0, none⟩) (gs.length + 1) c'
    rw [HFI.out] at hd5
    have hw6 : Off [db] w5 (w5.setCell ⟨db, i * 7 + 5, none⟩ (.slice (some ⟨g', 0, none⟩) (gs.length + 1) c')) := (Off.refl _ _).setCell (by simp) _
    have hgn : g' ≠ db := fun e => by
      rcases HG5.out with ⟨a, h1, h2⟩ | h1
      · exact hAdb (by rw [h1]; simp [thX, h2, e])
      · omega
    have ho6 := HO5.out.off hw6 (fun a ha hm => by
      injection ha with ha
      subst ha
      simp only [List.mem_cons, List.not_mem_nil, or_false] at hm
      exact hgn hm)
    have hkr6 := (HKR3.out.off HF5.out (fun hm => by have := (HLT.out _ hm).2; omega)).off hw6 (by simpa using hn1)
    have hof6 : Off (db :: thX fi.A) w (w5.setCell ⟨db, i * 7 + 5, none⟩ (.slice (some ⟨g', 0, none⟩) (gs.length + 1) c')) := ((Off.of_below HBE.out).trans (HF5.out.mono (fun y hy => List.mem_cons_of_mem _ hy))).trans (hw6.mono (by simp))
    have H6 := Lib.hid (And.intro hd5 (And.intro ho6 (And.intro hkr6 hof6)))
    have HEND := Lib.hid (dend_any hd5 i hi 0 (E : Int))
    clear hd5 hw6 ho6 hkr6 hof6 u5 f5'
    generalize w5.setCell ⟨db, i * 7 + 5, none⟩ (.slice (some ⟨g', 0, none⟩) (gs.length + 1) c') = w7 at *
    have d07 : w7.cell? ⟨d, 0, none⟩ = some (.int .i64 (E : Int)) := H6.out.1.hd.cell 0 _ rfl
    have ld7 := H6.out.1.hd.lt
    go_wp2_with fail
    with_reducible refine HEND.out.mono ?_
    rintro e w8 ⟨rfl, h8, o8⟩
    have kr8 := H6.out.2.2.1.off o8 (by simpa using hn1)
    have ho8 := H6.out.2.1.off o8 (fun a ha hm => by
      injection ha with ha
      subst ha
      simp only [List.mem_cons, List.not_mem_nil, or_false] at hm
      exact hgn hm)
    rw [updF_same, updF_updF] at h8
    have z0 := kr8.cell 0 _ rfl
    have z1 := kr8.cell 1 _ rfl
    have z2 := kr8.cell 2 _ rfl
    have z3 := kr8.cell 3 _ rfl
    have y0 := kr8.froz 0 (by simp)
    have y1 := kr8.froz 1 (by simp)
    have y2 := kr8.froz 2 (by simp)
    have y3 := kr8.froz 3 (by simp)
    have zl := kr8.lt
    have H8 := Lib.hid (And.intro h8 (And.intro ho8 (And.intro (H6.out.2.2.2.trans (o8.mono (by simp))) kr8)))
    clear h8 ho8 o8 kr8 HEND H6
    go_wp2
    have hp := off_put4 (Off.refl [w.heap.size] w8) (r := w.heap.size) (by simp) (.bool true) (.int .i64 0) (.int .i64 (E : Int)) (.slice none 0 0)
    have kf := H8.out.2.2.2.put4 (.bool true) (.int .i64 0) (.int .i64 (E : Int)) (.slice none 0 0)
    have q0 := kf.cell 0 _ rfl
    have q1 := kf.cell 1 _ rfl
    have q2 := kf.cell 2 _ rfl
    have q3 := kf.cell 3 _ rfl
    refine bodyPost_ret (v := .tuple #[.agg #[.bool true, .int .i64 0, .int .i64 (E : Int), .slice none 0 0], .int .i64 0]) ?_ ?_ ?_
    · simp [results, Try.results19, go_sem, q0, q1, q2, q3]
    · rfl
    · refine ⟨true, 0, (E : Int), none, 0, 0, w8, rfl, ⟨rfl, rfl, rfl, rfl, rfl, rfl, g', c', ?_, ?_, ?_, ?_⟩, hp⟩
      · rw [HFI.out]; exact H8.out.1
      · rw [GVs_append, HFI.out]; exact H8.out.2.1
      · rw [HFI.out]
        rcases HG5.out with ⟨a, h1, h2⟩ | h1
        · exact .inl (by rw [h1]; simp [thX, h2])
        · exact .inr (by omega)
      · rw [HFI.out]; exact H8.out.2.2.1

end
end Go.Proofs.Ytpjgpiiibgogeaa


/- The document's Epochs: Start. -/
namespace Go.Proofs.Ytpjgpiiibgogeaa
open Go.RowKit
set_option maxRecDepth 100000
set_option linter.unusedVariables false

section
variable {w w' : World} {d db W : Nat} {E : Int} {f : Nat → DkV} {S : List Nat}
theorem dstart_who (w : World) (p : Value) (who : Int) (op : Nat) (t : Int) (HT0 : Calls Try.prog 56 #[p, .int .i64 who] w fun e w' => e = .returned (.bool false) ∧ w = w') : Calls Try.prog 17 #[p, .int .i64 who, .int .u8 (op : Int), .int .i64 t] w fun e w' => e = .returned (.int .i64 1) ∧ w = w' := by
  have HT := Lib.hid HT0
  clear HT0
  go_enter Try.func17, Try.ntmps17
  go_wp2_with fail
  with_reducible refine HT.out.mono ?_
  rintro e w1 ⟨rfl, hw⟩
  subst hw
  go_wp2
  go_ret
  exact ⟨rfl, rfl⟩
theorem dstart_op (h : DrS w d db W E f) (i : Nat) (hi : i < W) (op : Nat) (t : Int) (ho : op < 1 ∨ 5 < op) : Calls Try.prog 17 #[PV d, IV i, .int .u8 (op : Int), .int .i64 t] w fun e w' => e = .returned (.int .i64 1) ∧ w = w' := by
  have HT := Lib.hid (there_any h (i : Int))
  rw [show inB (i : Int) W = true from inB_iff.mpr (by omega)] at HT
  clear h
  rcases ho with ho | ho
  · have n1 : (op : Int) < 1 := by omega
    go_enter Try.func17, Try.ntmps17
    go_wp2_with fail
    with_reducible refine HT.out.mono ?_
    rintro e w1 ⟨rfl, hw⟩
    subst hw
    go_wp2
    go_ret
    exact ⟨rfl, rfl⟩
  · have n1 : ¬ (op : Int) < 1 := by omega
    have n2 : (5 : Int) < (op : Int) := by omega
    go_enter Try.func17, Try.ntmps17
    go_wp2_with fail
    with_reducible refine HT.out.mono ?_
    rintro e w1 ⟨rfl, hw⟩
    subst hw
    go_wp2
    go_ret
    exact ⟨rfl, rfl⟩

theorem dstart_busy (h : DrS w d db W E f) (i : Nat) (hi : i < W) (op : Nat) (h1 : 1 ≤ op) (h5 : op ≤ 5) (t : Int) (hop : (f i).op ≠ 0) : Calls Try.prog 17 #[PV d, IV i, .int .u8 (op : Int), .int .i64 t] w fun e w' => e = .returned (.int .i64 9) ∧ w = w' := by
  have HT := Lib.hid (there_any h (i : Int))
  rw [show inB (i : Int) W = true from inB_iff.mpr (by omega)] at HT
  have d1 : w.cell? ⟨d, 1, none⟩ = some (.slice (some ⟨db, 0, none⟩) W W) := h.hd.cell 1 _ rfl
  have k0 : w.cell? ⟨db, i * 7, none⟩ = some (.int .u8 ((f i).op : Int)) := h.k (c := 0) hi (by omega)
  have k1 : w.cell? ⟨db, i * 7 + 1, none⟩ = some (.int .i64 ((f i).pl : Int)) := h.k (c := 1) hi (by omega)
  have k3 : w.cell? ⟨db, i * 7 + 3, none⟩ = some (.int .i64 (f i).t) := h.k (c := 3) hi (by omega)
  have k4 : w.cell? ⟨db, i * 7 + 4, none⟩ = some (.bool (f i).pn) := h.k (c := 4) hi (by omega)
  have k5 : w.cell? ⟨db, i * 7 + 5, none⟩ = some (.slice (f i).A (f i).n (f i).c) := h.k (c := 5) hi (by omega)
  have f0 : w.frozen? ⟨db, i * 7, none⟩ = false := h.fr (c := 0) hi (by omega)
  have f1 := h.fr (i := i) (c := 1) hi (by omega)
  have f3 := h.fr (i := i) (c := 3) hi (by omega)
  have lb := h.wk.lt
  have ld := h.hd.lt
  have j0 : (0 : Int) ≤ (i : Int) := by omega
  have j1 : (i : Int) < (W : Int) := by omega
  have b0 : (((f i).op : Int) != 0) = true := by simpa using hop
  have n1 : ¬ (op : Int) < 1 := by omega
  have n2 : ¬ (5 : Int) < (op : Int) := by omega
  clear hop
  clear h
  generalize f i = fi at *
  go_enter Try.func17, Try.ntmps17
  go_wp2_with fail
  with_reducible refine HT.out.mono ?_
  rintro e w1 ⟨rfl, hw⟩
  subst hw
  go_wp2
  go_ret
  exact ⟨rfl, rfl⟩

theorem dstart_no2 (h : DrS w d db W E f) (i : Nat) (hi : i < W) (t : Int) (hop : (f i).op = 0) (hp : (f i).pn = false) : Calls Try.prog 17 #[PV d, IV i, .int .u8 2, .int .i64 t] w fun e w' => e = .returned (.int .i64 7) ∧ w = w' := by
  have HT := Lib.hid (there_any h (i : Int))
  rw [show inB (i : Int) W = true from inB_iff.mpr (by omega)] at HT
  have d1 : w.cell? ⟨d, 1, none⟩ = some (.slice (some ⟨db, 0, none⟩) W W) := h.hd.cell 1 _ rfl
  have k0 : w.cell? ⟨db, i * 7, none⟩ = some (.int .u8 ((f i).op : Int)) := h.k (c := 0) hi (by omega)
  have k1 : w.cell? ⟨db, i * 7 + 1, none⟩ = some (.int .i64 ((f i).pl : Int)) := h.k (c := 1) hi (by omega)
  have k3 : w.cell? ⟨db, i * 7 + 3, none⟩ = some (.int .i64 (f i).t) := h.k (c := 3) hi (by omega)
  have k4 : w.cell? ⟨db, i * 7 + 4, none⟩ = some (.bool (f i).pn) := h.k (c := 4) hi (by omega)
  have k5 : w.cell? ⟨db, i * 7 + 5, none⟩ = some (.slice (f i).A (f i).n (f i).c) := h.k (c := 5) hi (by omega)
  have f0 : w.frozen? ⟨db, i * 7, none⟩ = false := h.fr (c := 0) hi (by omega)
  have f1 := h.fr (i := i) (c := 1) hi (by omega)
  have f3 := h.fr (i := i) (c := 3) hi (by omega)
  have lb := h.wk.lt
  have ld := h.hd.lt
  have j0 : (0 : Int) ≤ (i : Int) := by omega
  have j1 : (i : Int) < (W : Int) := by omega
  rw [hop] at k0
  rw [show ((0 : Nat) : Int) = 0 from rfl] at k0
  clear hop
  rw [hp] at k4
  clear hp
  clear h
  generalize f i = fi at *
  go_enter Try.func17, Try.ntmps17
  go_wp2_with fail
  with_reducible refine HT.out.mono ?_
  rintro e w1 ⟨rfl, hw⟩
  subst hw
  go_wp2
  go_ret
  exact ⟨rfl, rfl⟩

theorem dstart_no1 (h : DrS w d db W E f) (i : Nat) (hi : i < W) (t : Int) (hop : (f i).op = 0) (hp : (f i).pn = true) : Calls Try.prog 17 #[PV d, IV i, .int .u8 1, .int .i64 t] w fun e w' => e = .returned (.int .i64 8) ∧ w = w' := by
  have HT := Lib.hid (there_any h (i : Int))
  rw [show inB (i : Int) W = true from inB_iff.mpr (by omega)] at HT
  have d1 : w.cell? ⟨d, 1, none⟩ = some (.slice (some ⟨db, 0, none⟩) W W) := h.hd.cell 1 _ rfl
  have k0 : w.cell? ⟨db, i * 7, none⟩ = some (.int .u8 ((f i).op : Int)) := h.k (c := 0) hi (by omega)
  have k1 : w.cell? ⟨db, i * 7 + 1, none⟩ = some (.int .i64 ((f i).pl : Int)) := h.k (c := 1) hi (by omega)
  have k3 : w.cell? ⟨db, i * 7 + 3, none⟩ = some (.int .i64 (f i).t) := h.k (c := 3) hi (by omega)
  have k4 : w.cell? ⟨db, i * 7 + 4, none⟩ = some (.bool (f i).pn) := h.k (c := 4) hi (by omega)
  have k5 : w.cell? ⟨db, i * 7 + 5, none⟩ = some (.slice (f i).A (f i).n (f i).c) := h.k (c := 5) hi (by omega)
  have f0 : w.frozen? ⟨db, i * 7, none⟩ = false := h.fr (c := 0) hi (by omega)
  have f1 := h.fr (i := i) (c := 1) hi (by omega)
  have f3 := h.fr (i := i) (c := 3) hi (by omega)
  have lb := h.wk.lt
  have ld := h.hd.lt
  have j0 : (0 : Int) ≤ (i : Int) := by omega
  have j1 : (i : Int) < (W : Int) := by omega
  rw [hop] at k0
  rw [show ((0 : Nat) : Int) = 0 from rfl] at k0
  clear hop
  rw [hp] at k4
  clear hp
  clear h
  generalize f i = fi at *
  go_enter Try.func17, Try.ntmps17
  go_wp2_with fail
  with_reducible refine HT.out.mono ?_
  rintro e w1 ⟨rfl, hw⟩
  subst hw
  go_wp2
  go_ret
  exact ⟨rfl, rfl⟩

theorem dstart_no3 (h : DrS w d db W E f) (i : Nat) (hi : i < W) (t : Int) (hop : (f i).op = 0) (hp : 4096 ≤ (f i).n) : Calls Try.prog 17 #[PV d, IV i, .int .u8 3, .int .i64 t] w fun e w' => e = .returned (.int .i64 10) ∧ w = w' := by
  have HT := Lib.hid (there_any h (i : Int))
  rw [show inB (i : Int) W = true from inB_iff.mpr (by omega)] at HT
  have d1 : w.cell? ⟨d, 1, none⟩ = some (.slice (some ⟨db, 0, none⟩) W W) := h.hd.cell 1 _ rfl
  have k0 : w.cell? ⟨db, i * 7, none⟩ = some (.int .u8 ((f i).op : Int)) := h.k (c := 0) hi (by omega)
  have k1 : w.cell? ⟨db, i * 7 + 1, none⟩ = some (.int .i64 ((f i).pl : Int)) := h.k (c := 1) hi (by omega)
  have k3 : w.cell? ⟨db, i * 7 + 3, none⟩ = some (.int .i64 (f i).t) := h.k (c := 3) hi (by omega)
  have k4 : w.cell? ⟨db, i * 7 + 4, none⟩ = some (.bool (f i).pn) := h.k (c := 4) hi (by omega)
  have k5 : w.cell? ⟨db, i * 7 + 5, none⟩ = some (.slice (f i).A (f i).n (f i).c) := h.k (c := 5) hi (by omega)
  have f0 : w.frozen? ⟨db, i * 7, none⟩ = false := h.fr (c := 0) hi (by omega)
  have f1 := h.fr (i := i) (c := 1) hi (by omega)
  have f3 := h.fr (i := i) (c := 3) hi (by omega)
  have lb := h.wk.lt
  have ld := h.hd.lt
  have j0 : (0 : Int) ≤ (i : Int) := by omega
  have j1 : (i : Int) < (W : Int) := by omega
  rw [hop] at k0
  rw [show ((0 : Nat) : Int) = 0 from rfl] at k0
  clear hop
  have g0 : (4096 : Int) ≤ ((f i).n : Int) := by omega
  clear hp
  clear h
  generalize f i = fi at *
  go_enter Try.func17, Try.ntmps17
  go_wp2_with fail
  with_reducible refine HT.out.mono ?_
  rintro e w1 ⟨rfl, hw⟩
  subst hw
  go_wp2
  go_ret
  exact ⟨rfl, rfl⟩

theorem dstart_ok1 (h : DrS w d db W E f) (i : Nat) (hi : i < W) (t : Int) (hop : (f i).op = 0) (hp : (f i).pn = false) : Calls Try.prog 17 #[PV d, IV i, .int .u8 1, .int .i64 t] w fun e w' => e = .returned (.int .i64 0) ∧ DrS w' d db W E (updF f i { f i with op := 1, pl := 0, t := t }) ∧ Off [db] w w' := by
  have hc : DrS (((w.setCell ⟨db, i * 7, none⟩ (.int .u8 1)).setCell ⟨db, i * 7 + 1, none⟩ (.int .i64 0)).setCell ⟨db, i * 7 + 3, none⟩ (.int .i64 t)) d db W E (updF f i { f i with op := 1, pl := 0, t := t }) := by
    have := ((h.s0 hi 1).s1 hi 0).s3 hi t
    simp only [updF_same, updF_updF] at this
    exact this
  have ho : Off [db] w (((w.setCell ⟨db, i * 7, none⟩ (.int .u8 1)).setCell ⟨db, i * 7 + 1, none⟩ (.int .i64 0)).setCell ⟨db, i * 7 + 3, none⟩ (.int .i64 t)) := (((Off.refl [db] w).setCell (p := ⟨db, i * 7, none⟩) (by simp) (.int .u8 1)).setCell (p := ⟨db, i * 7 + 1, none⟩) (by simp) (.int .i64 0)).setCell (p := ⟨db, i * 7 + 3, none⟩) (by simp) (.int .i64 t)
  have HH := Lib.hid (And.intro hc ho)
  have HT := Lib.hid (there_any h (i : Int))
  rw [show inB (i : Int) W = true from inB_iff.mpr (by omega)] at HT
  have d1 : w.cell? ⟨d, 1, none⟩ = some (.slice (some ⟨db, 0, none⟩) W W) := h.hd.cell 1 _ rfl
  have k0 : w.cell? ⟨db, i * 7, none⟩ = some (.int .u8 ((f i).op : Int)) := h.k (c := 0) hi (by omega)
  have k1 : w.cell? ⟨db, i * 7 + 1, none⟩ = some (.int .i64 ((f i).pl : Int)) := h.k (c := 1) hi (by omega)
  have k3 : w.cell? ⟨db, i * 7 + 3, none⟩ = some (.int .i64 (f i).t) := h.k (c := 3) hi (by omega)
  have k4 : w.cell? ⟨db, i * 7 + 4, none⟩ = some (.bool (f i).pn) := h.k (c := 4) hi (by omega)
  have k5 : w.cell? ⟨db, i * 7 + 5, none⟩ = some (.slice (f i).A (f i).n (f i).c) := h.k (c := 5) hi (by omega)
  have f0 : w.frozen? ⟨db, i * 7, none⟩ = false := h.fr (c := 0) hi (by omega)
  have f1 := h.fr (i := i) (c := 1) hi (by omega)
  have f3 := h.fr (i := i) (c := 3) hi (by omega)
  have lb := h.wk.lt
  have ld := h.hd.lt
  have j0 : (0 : Int) ≤ (i : Int) := by omega
  have j1 : (i : Int) < (W : Int) := by omega
  rw [hop] at k0
  rw [show ((0 : Nat) : Int) = 0 from rfl] at k0
  clear hop
  rw [hp] at k4
  clear hp
  clear h hc ho
  generalize f i = fi at *
  go_enter Try.func17, Try.ntmps17
  go_wp2_with fail
  with_reducible refine HT.out.mono ?_
  rintro e w1 ⟨rfl, hw⟩
  subst hw
  go_wp2
  go_ret
  exact ⟨rfl, HH.out.1, HH.out.2⟩

theorem dstart_ok2 (h : DrS w d db W E f) (i : Nat) (hi : i < W) (t : Int) (hop : (f i).op = 0) (hp : (f i).pn = true) : Calls Try.prog 17 #[PV d, IV i, .int .u8 2, .int .i64 t] w fun e w' => e = .returned (.int .i64 0) ∧ DrS w' d db W E (updF f i { f i with op := 2, pl := 0, t := t }) ∧ Off [db] w w' := by
  have hc : DrS (((w.setCell ⟨db, i * 7, none⟩ (.int .u8 2)).setCell ⟨db, i * 7 + 1, none⟩ (.int .i64 0)).setCell ⟨db, i * 7 + 3, none⟩ (.int .i64 t)) d db W E (updF f i { f i with op := 2, pl := 0, t := t }) := by
    have := ((h.s0 hi 2).s1 hi 0).s3 hi t
    simp only [updF_same, updF_updF] at this
    exact this
  have ho : Off [db] w (((w.setCell ⟨db, i * 7, none⟩ (.int .u8 2)).setCell ⟨db, i * 7 + 1, none⟩ (.int .i64 0)).setCell ⟨db, i * 7 + 3, none⟩ (.int .i64 t)) := (((Off.refl [db] w).setCell (p := ⟨db, i * 7, none⟩) (by simp) (.int .u8 2)).setCell (p := ⟨db, i * 7 + 1, none⟩) (by simp) (.int .i64 0)).setCell (p := ⟨db, i * 7 + 3, none⟩) (by simp) (.int .i64 t)
  have HH := Lib.hid (And.intro hc ho)
  have HT := Lib.hid (there_any h (i : Int))
  rw [show inB (i : Int) W = true from inB_iff.mpr (by omega)] at HT
  have d1 : w.cell? ⟨d, 1, none⟩ = some (.slice (some ⟨db, 0, none⟩) W W) := h.hd.cell 1 _ rfl
  have k0 : w.cell? ⟨db, i * 7, none⟩ = some (.int .u8 ((f i).op : Int)) := h.k (c := 0) hi (by omega)
  have k1 : w.cell? ⟨db, i * 7 + 1, none⟩ = some (.int .i64 ((f i).pl : Int)) := h.k (c := 1) hi (by omega)
  have k3 : w.cell? ⟨db, i * 7 + 3, none⟩ = some (.int .i64 (f i).t) := h.k (c := 3) hi (by omega)
  have k4 : w.cell? ⟨db, i * 7 + 4, none⟩ = some (.bool (f i).pn) := h.k (c := 4) hi (by omega)
  have k5 : w.cell? ⟨db, i * 7 + 5, none⟩ = some (.slice (f i).A (f i).n (f i).c) := h.k (c := 5) hi (by omega)
  have f0 : w.frozen? ⟨db, i * 7, none⟩ = false := h.fr (c := 0) hi (by omega)
  have f1 := h.fr (i := i) (c := 1) hi (by omega)
  have f3 := h.fr (i := i) (c := 3) hi (by omega)
  have lb := h.wk.lt
  have ld := h.hd.lt
  have j0 : (0 : Int) ≤ (i : Int) := by omega
  have j1 : (i : Int) < (W : Int) := by omega
  rw [hop] at k0
  rw [show ((0 : Nat) : Int) = 0 from rfl] at k0
  clear hop
  rw [hp] at k4
  clear hp
  clear h hc ho
  generalize f i = fi at *
  go_enter Try.func17, Try.ntmps17
  go_wp2_with fail
  with_reducible refine HT.out.mono ?_
  rintro e w1 ⟨rfl, hw⟩
  subst hw
  go_wp2
  go_ret
  exact ⟨rfl, HH.out.1, HH.out.2⟩

theorem dstart_ok3 (h : DrS w d db W E f) (i : Nat) (hi : i < W) (t : Int) (hop : (f i).op = 0) (hp : (f i).n < 4096) : Calls Try.prog 17 #[PV d, IV i, .int .u8 3, .int .i64 t] w fun e w' => e = .returned (.int .i64 0) ∧ DrS w' d db W E (updF f i { f i with op := 3, pl := 0, t := t }) ∧ Off [db] w w' := by
  have hc : DrS (((w.setCell ⟨db, i * 7, none⟩ (.int .u8 3)).setCell ⟨db, i * 7 + 1, none⟩ (.int .i64 0)).setCell ⟨db, i * 7 + 3, none⟩ (.int .i64 t)) d db W E (updF f i { f i with op := 3, pl := 0, t := t }) := by
    have := ((h.s0 hi 3).s1 hi 0).s3 hi t
    simp only [updF_same, updF_updF] at this
    exact this
  have ho : Off [db] w (((w.setCell ⟨db, i * 7, none⟩ (.int .u8 3)).setCell ⟨db, i * 7 + 1, none⟩ (.int .i64 0)).setCell ⟨db, i * 7 + 3, none⟩ (.int .i64 t)) := (((Off.refl [db] w).setCell (p := ⟨db, i * 7, none⟩) (by simp) (.int .u8 3)).setCell (p := ⟨db, i * 7 + 1, none⟩) (by simp) (.int .i64 0)).setCell (p := ⟨db, i * 7 + 3, none⟩) (by simp) (.int .i64 t)
  have HH := Lib.hid (And.intro hc ho)
  have HT := Lib.hid (there_any h (i : Int))
  rw [show inB (i : Int) W = true from inB_iff.mpr (by omega)] at HT
  have d1 : w.cell? ⟨d, 1, none⟩ = some (.slice (some ⟨db, 0, none⟩) W W) := h.hd.cell 1 _ rfl
  have k0 : w.cell? ⟨db, i * 7, none⟩ = some (.int .u8 ((f i).op : Int)) := h.k (c := 0) hi (by omega)
  have k1 : w.cell? ⟨db, i * 7 + 1, none⟩ = some (.int .i64 ((f i).pl : Int)) := h.k (c := 1) hi (by omega)
  have k3 : w.cell? ⟨db, i * 7 + 3, none⟩ = some (.int .i64 (f i).t) := h.k (c := 3) hi (by omega)
  have k4 : w.cell? ⟨db, i * 7 + 4, none⟩ = some (.bool (f i).pn) := h.k (c := 4) hi (by omega)
  have k5 : w.cell? ⟨db, i * 7 + 5, none⟩ = some (.slice (f i).A (f i).n (f i).c) := h.k (c := 5) hi (by omega)
  have f0 : w.frozen? ⟨db, i * 7, none⟩ = false := h.fr (c := 0) hi (by omega)
  have f1 := h.fr (i := i) (c := 1) hi (by omega)
  have f3 := h.fr (i := i) (c := 3) hi (by omega)
  have lb := h.wk.lt
  have ld := h.hd.lt
  have j0 : (0 : Int) ≤ (i : Int) := by omega
  have j1 : (i : Int) < (W : Int) := by omega
  rw [hop] at k0
  rw [show ((0 : Nat) : Int) = 0 from rfl] at k0
  clear hop
  have g0 : ¬ (4096 : Int) ≤ ((f i).n : Int) := by omega
  clear hp
  clear h hc ho
  generalize f i = fi at *
  go_enter Try.func17, Try.ntmps17
  go_wp2_with fail
  with_reducible refine HT.out.mono ?_
  rintro e w1 ⟨rfl, hw⟩
  subst hw
  go_wp2
  go_ret
  exact ⟨rfl, HH.out.1, HH.out.2⟩

theorem dstart_ok4 (h : DrS w d db W E f) (i : Nat) (hi : i < W) (t : Int) (hop : (f i).op = 0)  : Calls Try.prog 17 #[PV d, IV i, .int .u8 4, .int .i64 t] w fun e w' => e = .returned (.int .i64 0) ∧ DrS w' d db W E (updF f i { f i with op := 4, pl := 0, t := t }) ∧ Off [db] w w' := by
  have hc : DrS (((w.setCell ⟨db, i * 7, none⟩ (.int .u8 4)).setCell ⟨db, i * 7 + 1, none⟩ (.int .i64 0)).setCell ⟨db, i * 7 + 3, none⟩ (.int .i64 t)) d db W E (updF f i { f i with op := 4, pl := 0, t := t }) := by
    have := ((h.s0 hi 4).s1 hi 0).s3 hi t
    simp only [updF_same, updF_updF] at this
    exact this
  have ho : Off [db] w (((w.setCell ⟨db, i * 7, none⟩ (.int .u8 4)).setCell ⟨db, i * 7 + 1, none⟩ (.int .i64 0)).setCell ⟨db, i * 7 + 3, none⟩ (.int .i64 t)) := (((Off.refl [db] w).setCell (p := ⟨db, i * 7, none⟩) (by simp) (.int .u8 4)).setCell (p := ⟨db, i * 7 + 1, none⟩) (by simp) (.int .i64 0)).setCell (p := ⟨db, i * 7 + 3, none⟩) (by simp) (.int .i64 t)
  have HH := Lib.hid (And.intro hc ho)
  have HT := Lib.hid (there_any h (i : Int))
  rw [show inB (i : Int) W = true from inB_iff.mpr (by omega)] at HT
  have d1 : w.cell? ⟨d, 1, none⟩ = some (.slice (some ⟨db, 0, none⟩) W W) := h.hd.cell 1 _ rfl
  have k0 : w.cell? ⟨db, i * 7, none⟩ = some (.int .u8 ((f i).op : Int)) := h.k (c := 0) hi (by omega)
  have k1 : w.cell? ⟨db, i * 7 + 1, none⟩ = some (.int .i64 ((f i).pl : Int)) := h.k (c := 1) hi (by omega)
  have k3 : w.cell? ⟨db, i * 7 + 3, none⟩ = some (.int .i64 (f i).t) := h.k (c := 3) hi (by omega)
  have k4 : w.cell? ⟨db, i * 7 + 4, none⟩ = some (.bool (f i).pn) := h.k (c := 4) hi (by omega)
  have k5 : w.cell? ⟨db, i * 7 + 5, none⟩ = some (.slice (f i).A (f i).n (f i).c) := h.k (c := 5) hi (by omega)
  have f0 : w.frozen? ⟨db, i * 7, none⟩ = false := h.fr (c := 0) hi (by omega)
  have f1 := h.fr (i := i) (c := 1) hi (by omega)
  have f3 := h.fr (i := i) (c := 3) hi (by omega)
  have lb := h.wk.lt
  have ld := h.hd.lt
  have j0 : (0 : Int) ≤ (i : Int) := by omega
  have j1 : (i : Int) < (W : Int) := by omega
  rw [hop] at k0
  rw [show ((0 : Nat) : Int) = 0 from rfl] at k0
  clear hop
  clear h hc ho
  generalize f i = fi at *
  go_enter Try.func17, Try.ntmps17
  go_wp2_with fail
  with_reducible refine HT.out.mono ?_
  rintro e w1 ⟨rfl, hw⟩
  subst hw
  go_wp2
  go_ret
  exact ⟨rfl, HH.out.1, HH.out.2⟩

theorem dstart_ok5 (h : DrS w d db W E f) (i : Nat) (hi : i < W) (t : Int) (hop : (f i).op = 0)  : Calls Try.prog 17 #[PV d, IV i, .int .u8 5, .int .i64 t] w fun e w' => e = .returned (.int .i64 0) ∧ DrS w' d db W E (updF f i { f i with op := 5, pl := 0, t := t }) ∧ Off [db] w w' := by
  have hc : DrS (((w.setCell ⟨db, i * 7, none⟩ (.int .u8 5)).setCell ⟨db, i * 7 + 1, none⟩ (.int .i64 0)).setCell ⟨db, i * 7 + 3, none⟩ (.int .i64 t)) d db W E (updF f i { f i with op := 5, pl := 0, t := t }) := by
    have := ((h.s0 hi 5).s1 hi 0).s3 hi t
    simp only [updF_same, updF_updF] at this
    exact this
  have ho : Off [db] w (((w.setCell ⟨db, i * 7, none⟩ (.int .u8 5)).setCell ⟨db, i * 7 + 1, none⟩ (.int .i64 0)).setCell ⟨db, i * 7 + 3, none⟩ (.int .i64 t)) := (((Off.refl [db] w).setCell (p := ⟨db, i * 7, none⟩) (by simp) (.int .u8 5)).setCell (p := ⟨db, i * 7 + 1, none⟩) (by simp) (.int .i64 0)).setCell (p := ⟨db, i * 7 + 3, none⟩) (by simp) (.int .i64 t)
  have HH := Lib.hid (And.intro hc ho)
  have HT := Lib.hid (there_any h (i : Int))
  rw [show inB (i : Int) W = true from inB_iff.mpr (by omega)] at HT
  have d1 : w.cell? ⟨d, 1, none⟩ = some (.slice (some ⟨db, 0, none⟩) W W) := h.hd.cell 1 _ rfl
  have k0 : w.cell? ⟨db, i * 7, none⟩ = some (.int .u8 ((f i).op : Int)) := h.k (c := 0) hi (by omega)
  have k1 : w.cell? ⟨db, i * 7 + 1, none⟩ = some (.int .i64 ((f i).pl : Int)) := h.k (c := 1) hi (by omega)
  have k3 : w.cell? ⟨db, i * 7 + 3, none⟩ = some (.int .i64 (f i).t) := h.k (c := 3) hi (by omega)
  have k4 : w.cell? ⟨db, i * 7 + 4, none⟩ = some (.bool (f i).pn) := h.k (c := 4) hi (by omega)
  have k5 : w.cell? ⟨db, i * 7 + 5, none⟩ = some (.slice (f i).A (f i).n (f i).c) := h.k (c := 5) hi (by omega)
  have f0 : w.frozen? ⟨db, i * 7, none⟩ = false := h.fr (c := 0) hi (by omega)
  have f1 := h.fr (i := i) (c := 1) hi (by omega)
  have f3 := h.fr (i := i) (c := 3) hi (by omega)
  have lb := h.wk.lt
  have ld := h.hd.lt
  have j0 : (0 : Int) ≤ (i : Int) := by omega
  have j1 : (i : Int) < (W : Int) := by omega
  rw [hop] at k0
  rw [show ((0 : Nat) : Int) = 0 from rfl] at k0
  clear hop
  clear h hc ho
  generalize f i = fi at *
  go_enter Try.func17, Try.ntmps17
  go_wp2_with fail
  with_reducible refine HT.out.mono ?_
  rintro e w1 ⟨rfl, hw⟩
  subst hw
  go_wp2
  go_ret
  exact ⟨rfl, HH.out.1, HH.out.2⟩

end
end Go.Proofs.Ytpjgpiiibgogeaa


/- The document's Epochs: New, Held. -/
namespace Go.Proofs.Ytpjgpiiibgogeaa
open Go.RowKit
set_option maxRecDepth 100000
set_option linter.unusedVariables false

abbrev TWo : TypeId := 129
theorem wo_info : (Try.prog.info? TWo).map (fun i => (i.zero, i.size, i.bytes)) = some (some (.agg #[.int .u8 0, .int .i64 0, .int .i64 0, .int .i64 0, .bool false, .slice none 0 0, .int .i64 0]), 7, 72) := by kernel_rfl
theorem made7_at (n j : Nat) (h : j < n * 7) : (madeCells #[.int .u8 0, .int .i64 0, .int .i64 0, .int .i64 0, .bool false, .slice none 0 0, .int .i64 0] (n * 7)).toList[j]? = some (dkF (fun _ => noDk) j) := by
  rw [Array.getElem?_toList]
  unfold madeCells dkF
  rw [Array.getElem?_map, Array.getElem?_range, if_pos h]
  show some (#[Value.int .u8 0, .int .i64 0, .int .i64 0, .int .i64 0, .bool false, .slice none 0 0, .int .i64 0][j % 7]!) = _
  rcases (by omega : j % 7 = 0 ∨ j % 7 = 1 ∨ j % 7 = 2 ∨ j % 7 = 3 ∨ j % 7 = 4 ∨ j % 7 = 5 ∨ j % 7 = 6) with e | e | e | e | e | e | e <;> rw [e] <;> rfl
theorem dnew_bad (w : World) (n : Int) (h : n < 1 ∨ 64 < n) : Calls Try.prog 15 #[.int .i64 n] w fun e w' => e = .returned (.tuple #[.pointer none, .int .i64 1]) ∧ w = w' := by
  rcases h with h | h
  · go_enter Try.func15, Try.ntmps15
    go_wp2
    go_ret2
    exact ⟨rfl, rfl⟩
  · have h' : ¬ n < 1 := by omega
    go_enter Try.func15, Try.ntmps15
    go_wp2
    go_ret2
    exact ⟨rfl, rfl⟩
set_option maxHeartbeats 3200000 in
theorem dnew_ok (w : World) (n : Nat) (h1 : 1 ≤ n) (h2 : n ≤ 64) : Calls Try.prog 15 #[.int .i64 (n : Int)] w fun e w' => ∃ d db, e = .returned (.tuple #[PV d, .int .i64 0]) ∧
    DrS w' d db n 0 (fun _ => noDk) ∧ Below w.heap.size w w' ∧ w.heap.size ≤ d ∧ w.heap.size ≤ db := by
  obtain ⟨i0, hi0, hz0, hz1, hz2⟩ := info_parts wo_info
  have j1 : ¬ (n : Int) < 1 := by omega
  have j2 : ¬ (64 : Int) < (n : Int) := by omega
  have hby : i0.bytes * n ≤ 281474976710656 := by rw [hz2]; omega
  have hml : n ≤ maxLen := by unfold maxLen; omega
  go_enter Try.func15, Try.ntmps15
  go_wp2_with (refine wpList_make_full _ rfl _ _ 115 rfl w.heap.size TWo i0 (.agg #[.int .u8 0, .int .i64 0, .int .i64 0, .int .i64 0, .bool false, .slice none 0 0, .int .i64 0]) 7 Try.underlying115 hi0 hz0 hz1 .i64 .i64 n n n rfl rfl rfl rfl hby hml (Nat.le_refl _) ?_)
  intro w3 ho hg
  have HO := Lib.hid ho
  have HG := Lib.hid hg
  clear ho hg hi0 hz0 hz1
  go_wp2
  go_ret2
  have hcell := World.ownsRow.cellAt HO.out
  have hfroz := World.ownsRow.frozenAt HO.out
  have hlt := (World.ownsRow.lt HO.out w.heap.size rfl).2
  have hb3 : Below w.heap.size w w3 := (Below.refl _ _).grown HG.out (Nat.le_refl _) (fun k hk => by cases hk)
  have hal := (Below.refl w3.heap.size w3).alloc (Nat.le_refl _) (.cells #[.int .i64 0, .slice (some ⟨w.heap.size, 0, none⟩) n n] 117)
  have hs3 := hb3.size
  have hf : BlkF w3 w.heap.size (n * 7) (dkF (fun _ => noDk)) := ⟨hlt, fun i hi => (hcell i hi).trans (made7_at n i hi), fun i _ => hfroz i⟩
  exact ⟨w3.heap.size, w.heap.size, rfl, ⟨BlkL.new w3 [.int .i64 0, .slice (some ⟨w.heap.size, 0, none⟩) n n] _, hf.off (Off.of_below (S := []) hal) (by simp), by omega⟩, hb3.trans (hal.mono hs3), by omega, Nat.le_refl _⟩
section
variable {w w' : World} {d db W : Nat} {E : Int} {f : Nat → DkV} {S : List Nat}
/-- How Held ends: with a list of its own. -/
def HhE (w : World) (n : Nat) (l : List Int) (e : Ending) (w' : World) : Prop :=
  ∃ A c, e = .returned (.slice A n c) ∧ OwnC w' w.heap.size TI 1 A n c (thI l) ∧ Below w.heap.size w w'
theorem dheld_no (w : World) (p : Value) (who : Int) (HT : Hid (Calls Try.prog 56 #[p, .int .i64 who] w fun e w' => e = .returned (.bool false) ∧ w = w')) : Calls Try.prog 29 #[p, .int .i64 who] w fun e w' => e = .returned (.slice none 0 0) ∧ w = w' := by
  go_enter Try.func29, Try.ntmps29
  go_wp2_with fail
  with_reducible refine HT.out.mono ?_
  rintro e w1 ⟨rfl, hw⟩
  subst hw
  go_wp2
  go_ret
  exact ⟨rfl, rfl⟩
set_option maxHeartbeats 6400000 in
theorem dheld_any (h : DrS w d db W E f) (i : Nat) (hi : i < W) (B : Nat) (gs : List (Int × Nat)) (n : Nat) (hn : (f i).n = n) (hgl : gs.length = n) (hrow : OwnC w B TTh 2 (f i).A (f i).n (f i).c (GVs gs)) (hl : n ≤ 4096) :
    Calls Try.prog 29 #[PV d, IV i] w (HhE w n (gs.map (·.1))) := by
  have HT := Lib.hid (there_any h (i : Int))
  rw [show inB (i : Int) W = true from inB_iff.mpr (by omega)] at HT
  have c1 : w.cell? ⟨d, 1, none⟩ = some (.slice (some ⟨db, 0, none⟩) W W) := h.hd.cell 1 _ rfl
  have k5 : w.cell? ⟨db, i * 7 + 5, none⟩ = some (.slice (f i).A (f i).n (f i).c) := h.k (c := 5) hi (by omega)
  rw [hn] at k5 hrow
  have j0 : (0 : Int) ≤ (i : Int) := by omega
  have j1 : (i : Int) < (W : Int) := by omega
  have HG := Lib.hid hrow
  have HGL := Lib.hid hgl
  have HEND : Hid ((gs.map (·.1)).length = n) := Lib.hid (by rw [List.length_map, hgl])
  clear h hrow hgl hn
  generalize (f i).A = A at *
  generalize (f i).c = c at *
  unfold HhE
  have HO1 : Hid (OwnC w w.heap.size TI 1 none 0 0 (thI ((gs.map (·.1)).take 0))) := Lib.hid (World.ownsRow_nil _ _ _ _)
  have HB1 : Hid (Below w.heap.size w w) := Lib.hid (Below.refl _ _)
  go_enter Try.func29, Try.ntmps29
  go_wp2_with fail
  with_reducible refine HT.out.mono ?_
  rintro e w1 ⟨rfl, hw⟩
  subst hw
  clear HT
  go_wp2
  go_loopw [5, 20] (fun ov iv wr => ∃ (k : Nat) (A2 : Option Addr) (cc : Nat), k ≤ n ∧ iv = .int .i64 (k : Int) ∧ ov = .slice A2 k cc ∧ OwnC wr w.heap.size TI 1 A2 k cc (thI ((gs.map (·.1)).take k)) ∧ Below w.heap.size w wr) (fun _ iv _ => n - (intOf iv).toNat)
  case atStart => exact ⟨0, _, _, Nat.zero_le _, rfl, rfl, HO1.out, HB1.out⟩
  case round =>
    obtain ⟨k, A2, cc, hk, rfl, rfl, hown, hbw⟩ := hrel
    clear HO1 HB1
    rcases Nat.lt_or_ge k n with hlt | hge
    · obtain ⟨g, off, rfl, hgB, hcl⟩ := (HG.out.arg.below hbw).at_ (by omega)
      have ha := GVs_at gs k (by rw [HGL.out]; exact hlt)
      have c0 := (hcl (k * 2) (by omega)).trans ha.1
      have c1 : wr.cell? ⟨g, off + k * 2 + 1, none⟩ = some (.int .i64 ((gs.getD k (0, 0)).2 : Nat)) := (hcl (k * 2 + 1) (by omega)).trans ha.2
      have hte : thI ((gs.map (·.1)).take (k + 1)) = thI ((gs.map (·.1)).take k) ++ [.int .i64 (gs.getD k (0, 0)).1] := by
        have hil : k < gs.length := by rw [HGL.out]; exact hlt
        simp [thI, List.take_add_one, List.getD_eq_getElem?_getD, hil]
      generalize gs.getD k (0, 0) = y at *
      obtain ⟨yt, ye⟩ := y
      simp only at c0 c1 hte
      have hsz := hbw.size
      have b4 := ((Below.refl wr.heap.size wr).alloc (Nat.le_refl _) (.cells #[.int .i64 yt, .int .i64 (ye : Int)] 134)).alloc (by simp) (.cells #[.int .i64 yt] 3)
      have HO4 := Lib.hid (hown.below b4)
      have HB4 := Lib.hid (hbw.trans (b4.mono hsz))
      have hkt := BlkL.new (wr.alloc (.cells #[.int .i64 yt, .int .i64 (ye : Int)] 134)) [.int .i64 yt] 3
      rw [World.size_alloc] at hkt
      have HKT := Lib.hid hkt
      clear hkt
      have HTE := Lib.hid hte
      have i0 : (0 : Int) ≤ (k : Int) := by omega
      have i1 : (k : Int) < (n : Int) := by omega
      clear hown hbw b4 hcl ha hte
      go_wp2_with (refine wpList_append_row rfl (.tmp 24) (.tmp 27) 35 rfl w.heap.size TI _ 1 8 Try.underlying35 int_info rfl (by omega) A2 k cc _ rfl HO4.out (wr.heap.size + 1) 1 [.int .i64 yt] rfl rfl HKT.out.cell (by simp [Value.oneCell']) (by unfold maxLen; omega) (by omega) (by simp; omega) ?_)
      intro A3 c3 w5 ho5 hb5
      rw [← HTE.out] at ho5
      have HO5 := Lib.hid ho5
      have HB5 := Lib.hid (HB4.out.trans hb5)
      clear ho5 hb5 HO4 HB4 HTE c0 c1
      go_wp2
      go_roundw
      case rel => exact ⟨k + 1, _, _, by omega, by go_num, rfl, HO5.out, HB5.out⟩
      case measure => simp [intOf]; omega
    · obtain rfl : k = n := by omega
      have i1 : ¬ (k : Int) < (k : Int) := by omega
      rw [List.take_of_length_le (by rw [HEND.out]; exact Nat.le_refl _)] at hown
      have HO := Lib.hid hown
      have HB := Lib.hid hbw
      clear hown hbw
      go_wp2
      go_ret
      exact ⟨_, _, rfl, HO.out, HB.out⟩
end
end Go.Proofs.Ytpjgpiiibgogeaa


/- EpochPlays: a Step of nobody, a Step of one that has no call; two results are the same. -/
namespace Go.Proofs.Ytpjgpiiibgogeaa
open Go.RowKit
set_option maxRecDepth 100000
set_option linter.unusedVariables false

/-- How a Step without a call ends. -/
def SnE (w : World) (q : Int) (e : Ending) (w' : World) : Prop := e = .returned (.tuple #[.agg #[.bool false, .int .i64 0, .int .i64 0, .slice none 0 0], .int .i64 q]) ∧ Below w.heap.size w w'
set_option maxHeartbeats 3200000 in
theorem estep_who (w : World) (p : Value) (who : Int) (HW0 : Calls Try.prog 53 #[p, .int .i64 who] (w.alloc (.cells #[.bool false, .int .i64 0, .int .i64 0, .slice none 0 0] 37)) fun e w' => e = .returned (.bool false) ∧ (w.alloc (.cells #[.bool false, .int .i64 0, .int .i64 0, .slice none 0 0] 37)) = w') : Calls Try.prog 18 #[p, .int .i64 who] w (SnE w 1) := by
  have kr := BlkL.new w [.bool false, .int .i64 0, .int .i64 0, .slice none 0 0] 37
  have hb0 := (Below.refl w.heap.size w).alloc (Nat.le_refl _) (.cells #[.bool false, .int .i64 0, .int .i64 0, .slice none 0 0] 37)
  have HW := Lib.hid HW0
  have z0 := kr.cell 0 _ rfl
  have z1 := kr.cell 1 _ rfl
  have z2 := kr.cell 2 _ rfl
  have z3 := kr.cell 3 _ rfl
  have y0 := kr.froz 0 (by simp)
  have y1 := kr.froz 1 (by simp)
  have y2 := kr.froz 2 (by simp)
  have y3 := kr.froz 3 (by simp)
  have zl := kr.lt
  have KF := Lib.hid (And.intro kr hb0)
  clear HW0 kr hb0
  go_enter Try.func18, Try.ntmps18
  go_wp2_with fail
  with_reducible refine HW.out.mono ?_
  rintro e w1 ⟨rfl, hw⟩
  subst hw
  go_wp2
  have q0 := KF.out.1.cell 0 _ rfl
  have q1 := KF.out.1.cell 1 _ rfl
  have q2 := KF.out.1.cell 2 _ rfl
  have q3 := KF.out.1.cell 3 _ rfl
  refine bodyPost_ret (v := .tuple #[.agg #[.bool false, .int .i64 0, .int .i64 0, .slice none 0 0], .int .i64 1]) ?_ ?_ ?_
  · simp [results, Try.results18, go_sem, q0, q1, q2, q3]
  · rfl
  · exact ⟨rfl, KF.out.2⟩
set_option maxHeartbeats 3200000 in
theorem dstep_who2 (w : World) (p : Value) (who : Int) (HT0 : Calls Try.prog 56 #[p, .int .i64 who] (w.alloc RD) fun e w' => e = .returned (.bool false) ∧ (w.alloc RD) = w') : Calls Try.prog 19 #[p, .int .i64 who] w (SnE w 1) := by
  have hb0 := (Below.refl w.heap.size w).alloc (Nat.le_refl _) RD
  have KB := Lib.hid (And.intro (BlkL.new w [.bool false, .int .i64 0, .int .i64 0, .slice none 0 0] 41) hb0)
  have HT := Lib.hid HT0
  clear hb0 HT0
  go_enter Try.func19, Try.ntmps19
  go_wp2_with fail
  with_reducible refine HT.out.mono ?_
  rintro e w1 ⟨rfl, hw⟩
  subst hw
  go_wp2
  have q0 := KB.out.1.cell 0 _ rfl
  have q1 := KB.out.1.cell 1 _ rfl
  have q2 := KB.out.1.cell 2 _ rfl
  have q3 := KB.out.1.cell 3 _ rfl
  refine bodyPost_ret (v := .tuple #[.agg #[.bool false, .int .i64 0, .int .i64 0, .slice none 0 0], .int .i64 1]) ?_ ?_ ?_
  · simp [results, Try.results19, go_sem, q0, q1, q2, q3]
  · rfl
  · exact ⟨rfl, KB.out.2⟩
section
variable {w : World} {B x b bw wb W : Nat} {X : List Nat} {k : Nat} {s : EpV} {fv : Nat → Value} {rA : Nat → Option Addr} {rc : Nat → Nat} {ring : List Value}
set_option maxHeartbeats 3200000 in
theorem estep_none (h : EpR w B x b bw wb W X k s fv rA rc ring) (i : Nat) (hi : i < W) (hp : isEN (s.wk i).nx = false) : Calls Try.prog 18 #[PV x, IV i] w (SnE w 7) := by
  have kr := BlkL.new w [.bool false, .int .i64 0, .int .i64 0, .slice none 0 0] 37
  have hb0 := (Below.refl w.heap.size w).alloc (Nat.le_refl _) (.cells #[.bool false, .int .i64 0, .int .i64 0, .slice none 0 0] 37)
  have h1 := h.reX (X' := X) hb0 (fun y hy => .inl hy)
  have HW := Lib.hid (isW_any h1 (i : Int))
  rw [show inB (i : Int) W = true from inB_iff.mpr (by omega)] at HW
  have HP := Lib.hid (epend_any h1 i hi)
  rw [hp] at HP
  have z0 := kr.cell 0 _ rfl
  have z1 := kr.cell 1 _ rfl
  have z2 := kr.cell 2 _ rfl
  have z3 := kr.cell 3 _ rfl
  have y0 := kr.froz 0 (by simp)
  have y1 := kr.froz 1 (by simp)
  have y2 := kr.froz 2 (by simp)
  have y3 := kr.froz 3 (by simp)
  have zl := kr.lt
  have KF := Lib.hid (And.intro kr hb0)
  clear h h1 kr hb0
  go_enter Try.func18, Try.ntmps18
  go_wp2_with fail
  with_reducible refine HW.out.mono ?_
  rintro e w1 ⟨rfl, hw⟩
  subst hw
  go_wp2_with fail
  with_reducible refine HP.out.mono ?_
  rintro e w1 ⟨rfl, hw⟩
  subst hw
  go_wp2
  have q0 := KF.out.1.cell 0 _ rfl
  have q1 := KF.out.1.cell 1 _ rfl
  have q2 := KF.out.1.cell 2 _ rfl
  have q3 := KF.out.1.cell 3 _ rfl
  refine bodyPost_ret (v := .tuple #[.agg #[.bool false, .int .i64 0, .int .i64 0, .slice none 0 0], .int .i64 7]) ?_ ?_ ?_
  · simp [results, Try.results18, go_sem, q0, q1, q2, q3]
  · rfl
  · exact ⟨rfl, KF.out.2⟩
end
theorem OwnC.nilI (w : World) (B : Nat) : OwnC w B TI 1 none 0 0 (thI []) := World.ownsRow_nil _ _ _ _
set_option maxHeartbeats 3200000 in
/-- Two results that are the same. -/
theorem same13_any (w : World) (qd : Bool) (qe qn : Int) (B B' n c c' : Nat) (A A' : Option Addr) (l : List Int) (h : ArgI w B A n c l) (h' : ArgI w B' A' n c' l) (hB : B ≤ w.heap.size) (hB' : B' ≤ w.heap.size) :
    Calls Try.prog 20 #[.agg #[.bool qd, .int .i64 qe, .int .i64 qn, .slice A n c], .agg #[.bool qd, .int .i64 qe, .int .i64 qn, .slice A' n c']] w fun e w' => e = .returned (.bool true) ∧ Below w.heap.size w w' := by
  have hb := ((Below.refl w.heap.size w).alloc (Nat.le_refl _) (.cells #[.bool qd, .int .i64 qe, .int .i64 qn, .slice A n c] 37)).alloc (by simp) (.cells #[.bool qd, .int .i64 qe, .int .i64 qn, .slice A' n c'] 41)
  have HS := Lib.hid (sameInts_any _ B B' A A' n c n c' l l true (decide_eq_true rfl) (h.below (hb.mono hB)) (h'.below (hb.mono hB')))
  have HB := Lib.hid hb
  clear h h' hb hB hB'
  cases qd
  · go_enter Try.func20, Try.ntmps20
    go_wp2_with fail
    with_reducible refine HS.out.mono ?_
    rintro e w1 ⟨rfl, t, rfl⟩
    go_wp2
    go_ret
    exact ⟨rfl, below_drewN HB.out t⟩
  · go_enter Try.func20, Try.ntmps20
    go_wp2_with fail
    with_reducible refine HS.out.mono ?_
    rintro e w1 ⟨rfl, t, rfl⟩
    go_wp2
    go_ret
    exact ⟨rfl, below_drewN HB.out t⟩
end Go.Proofs.Ytpjgpiiibgogeaa


/- EpochPlays: the document's Epochs beside the program's: a step of both. -/
namespace Go.Proofs.Ytpjgpiiibgogeaa
open Go.RowKit
set_option maxRecDepth 100000
set_option linter.unusedVariables false

/-- Where the document's call stands. -/
def PlY (W : Nat) (x : DkV) : EN → Prop
  | .none => True
  | .pin => x.pl = 0
  | .mark _ e => x.pl % 2 = 1 ∧ x.e = (e : Int)
  | .confirm e => x.pl % 2 = 0 ∧ 2 ≤ x.pl ∧ x.e = (e : Int)
  | .unpin => True
  | .retire t => x.t = t
  | .advance => x.pl = 0
  | .look j e => x.pl = j + 1 ∧ x.e = (e : Int)
  | .move e => x.pl = W + 1 ∧ x.e = (e : Int)
  | .collect => True
structure RelK (W K : Nat) (k : WkV) (p : Nat) (x : DkV) : Prop where
  op : x.op = opY k.nx
  pn : x.pn = (k.pin != 0)
  P : x.P = (p : Int)
  n : x.n = k.gs.length
  pl : PlY W x k.nx
  bd : x.pl ≤ K
theorem RelK.mono {W K K' p : Nat} {k : WkV} {x : DkV} (h : RelK W K k p x) (hK : K ≤ K') : RelK W K' k p x := ⟨h.op, h.pn, h.P, h.n, h.pl, Nat.le_trans h.bd hK⟩
structure DoR (w : World) (d db W B K : Nat) (s : EpV) (f : Nat → DkV) : Prop where
  dr : DrS w d db W (s.E : Int) f
  rel : ∀ i, i < W → RelK W K (s.wk i) (s.P i) (f i)
  row : ∀ i, i < W → OwnC w B TTh 2 (f i).A (f i).n (f i).c (GVs (s.wk i).gs)
  rd : ∀ i, i < W → ∀ y ∈ thX (f i).A, y ≠ db ∧ y ≠ d
  rr : ∀ i j, i < W → j < W → i ≠ j → ∀ y ∈ thX (f i).A, y ∉ thX (f j).A
  le : B ≤ w.heap.size
section
variable {w w' w6 : World} {d db W B K K' : Nat} {s s' : EpV} {f : Nat → DkV} {S : List Nat} {i : Nat}
theorem DoR.off (h : DoR w d db W B K s f) (hf : Off S w w') (h1 : d ∉ S) (h2 : db ∉ S) (h3 : ∀ j, j < W → ∀ y ∈ thX (f j).A, y ∉ S) : DoR w' d db W B K s f :=
  ⟨h.dr.off hf h1 h2, h.rel, fun j hj => (h.row j hj).offX hf (h3 j hj), h.rd, h.rr, Nat.le_trans h.le hf.size⟩
theorem DoR.below (h : DoR w d db W B K s f) (hb : Below w.heap.size w w') : DoR w' d db W B K s f := h.off (S := []) (Off.of_below hb) (by simp) (by simp) (by simp)
/-- A worker's change. -/
theorem DoR.upd (h : DoR w d db W B K s f) (hi : i < W) {x' : DkV} (hdr : DrS w' d db W (s'.E : Int) (updF f i x')) (hof : Off (d :: db :: thX (f i).A) w w') (hP : ∀ j, j ≠ i → s'.P j = s.P j) (hK : ∀ j, j ≠ i → s'.wk j = s.wk j)
    (hrel : RelK W K' (s'.wk i) (s'.P i) x') (hKK : K ≤ K') (hrow : OwnC w' B TTh 2 x'.A x'.n x'.c (GVs (s'.wk i).gs)) (hnew : ∀ y ∈ thX x'.A, y ∈ thX (f i).A ∨ w.heap.size ≤ y) : DoR w' d db W B K' s' (updF f i x') := by
  have ld := h.dr.hd.lt
  have lb := h.dr.wk.lt
  have hlt : ∀ j, j < W → ∀ y ∈ thX (f j).A, y < w.heap.size := fun j hj y hy => ((h.row j hj).ltX y hy).2
  refine ⟨hdr, fun j hj => ?_, fun j hj => ?_, fun j hj y hy => ?_, fun a b ha hb hab y hy hm => ?_, Nat.le_trans h.le hof.size⟩
  · by_cases e : j = i
    · subst e; rw [updF_same]; exact hrel
    · rw [updF_other _ _ _ _ e, hP j e, hK j e]; exact (h.rel j hj).mono hKK
  · by_cases e : j = i
    · subst e; rw [updF_same]; exact hrow
    · rw [updF_other _ _ _ _ e, hK j e]
      refine (h.row j hj).offX hof (fun y hy hm => ?_)
      rcases List.mem_cons.1 hm with e1 | hm
      · exact (h.rd j hj y hy).2 e1
      · rcases List.mem_cons.1 hm with e1 | hm
        · exact (h.rd j hj y hy).1 e1
        · exact h.rr j i hj hi e y hy hm
  · by_cases e : j = i
    · subst e
      rw [updF_same] at hy
      rcases hnew y hy with h1 | h1
      · exact h.rd j hj y h1
      · exact ⟨by omega, by omega⟩
    · rw [updF_other _ _ _ _ e] at hy; exact h.rd j hj y hy
  · by_cases ea : a = i
    · subst ea
      rw [updF_same] at hy
      rw [updF_other _ _ _ _ (fun e => hab e.symm)] at hm
      rcases hnew y hy with h1 | h1
      · exact h.rr a b ha hb hab y h1 hm
      · have := hlt b hb y hm; omega
    · rw [updF_other _ _ _ _ ea] at hy
      by_cases eb : b = i
      · subst eb
        rw [updF_same] at hm
        rcases hnew y hm with h1 | h1
        · exact h.rr a b ha hb hab y hy h1
        · have := hlt a ha y hy; omega
      · rw [updF_other _ _ _ _ eb] at hm
        exact h.rr a b ha hb hab y hy hm
theorem stepE_P {j : Nat} (hj : j ≠ i) : (stepE W s i).s.P j = s.P j := by
  unfold stepE
  cases hn : (s.wk i).nx <;> simp only
  all_goals first
    | rfl
    | (split <;> first | rfl | (rw [EpV.P_setW' _ _ _ hj]; done) | (rw [EpV.P_setW0]; done) | (split <;> rfl) | (rw [EpV.P_setK, EpV.P_setW' _ _ _ hj]; done))
    | (rw [EpV.P_setK]; split <;> first | rfl | (rw [EpV.P_setW' _ _ _ hj]))
/-- What the worker's part has done. -/
def QdE (w : World) (d db W B K i : Nat) (f : Nat → DkV) (t : StE) (qd : Bool) (qe qn : Int) (A : Option Addr) (l c : Nat) (w6 : World) : Prop :=
  qd = t.q.d ∧ qe = (t.q.e : Int) ∧ qn = t.q.n ∧ l = t.q.th.length ∧ ∃ x' : DkV, DrS w6 d db W ((t.s.nx i t.y).E : Int) (updF f i x') ∧ RelK W (K + 1) ((t.s.nx i t.y).wk i) ((t.s.nx i t.y).P i) x' ∧
    OwnC w6 B TTh 2 x'.A x'.n x'.c (GVs ((t.s.nx i t.y).wk i).gs) ∧ OwnC w6 (w.heap.size + 1) TI 1 A l c (thI t.q.th) ∧ Off (d :: db :: thX (f i).A) w w6 ∧ (∀ y ∈ thX x'.A, y ∈ thX (f i).A ∨ w.heap.size < y)
/-- How the document's Step ends. -/
def StX (w : World) (d db W B K i : Nat) (f : Nat → DkV) (t : StE) (e : Ending) (w' : World) : Prop :=
  ∃ A c x', e = .returned (.tuple #[.agg #[.bool t.q.d, .int .i64 (t.q.e : Int), .int .i64 t.q.n, .slice A t.q.th.length c], .int .i64 0]) ∧ DoR w' d db W B (K + 1) (t.s.nx i t.y) (updF f i x') ∧
    OwnC w' w.heap.size TI 1 A t.q.th.length c (thI t.q.th) ∧ Off (d :: db :: thX (f i).A) w w' ∧ (∀ y ∈ thX x'.A, y ∈ thX (f i).A ∨ (w.heap.size ≤ y ∧ y < w'.heap.size))
theorem DtE.mono {Q Q' : Bool → Int → Int → Option Addr → Nat → Nat → World → Prop} (hQ : ∀ qd qe qn A l c w6, Q qd qe qn A l c w6 → Q' qd qe qn A l c w6) {e : Ending} (h : DtE w Q e w') : DtE w Q' e w' := by
  obtain ⟨qd, qe, qn, A, l, c, w6, h1, h2, h3⟩ := h
  exact ⟨qd, qe, qn, A, l, c, w6, h1, hQ _ _ _ _ _ _ _ h2, h3⟩
theorem fin13 (h : DoR w d db W B K s f) (hi : i < W) {t : StE} (ht : stepE W s i = t) {e : Ending} (hq : DtE w (QdE w d db W B K i f t) e w') : StX w d db W B K i f t e w' := by
  obtain ⟨qd, qe, qn, A, l, c, w6, rfl, ⟨rfl, rfl, rfl, rfl, x', h1, h2, h3, h4, h5, h6⟩, h7⟩ := hq
  have ld := h.dr.hd.lt
  have lb := h.dr.wk.lt
  have hof : Off (d :: db :: thX (f i).A) w w' := h5.transNew h7 (fun y hy => by simp only [List.mem_cons, List.not_mem_nil, or_false] at hy; omega)
  have hxl : ∀ y ∈ thX x'.A, y ∉ [w.heap.size] := fun y hy hm => by
    simp only [List.mem_cons, List.not_mem_nil, or_false] at hm
    rcases h6 y hy with h8 | h8
    · have := ((h.row i hi).ltX y h8).2; omega
    · omega
  have h3' := h3.offX h7 hxl
  have h4' := h4.offX h7 (fun y hy hm => by
    simp only [List.mem_cons, List.not_mem_nil, or_false] at hm
    have := (h4.ltX y hy).1; omega)
  refine ⟨A, c, x', rfl, h.upd hi (h1.off h7 (by simp; omega) (by simp; omega)) hof (fun j hj => ?_) (fun j hj => ?_) h2 (Nat.le_succ _) h3' (fun y hy => ?_), h4'.lower (Nat.le_succ _), hof, fun y hy => ?_⟩
  · rw [EpV.P_nx, ← ht]; exact stepE_P hj
  · rw [EpV.wk_nx' _ _ _ hj, ← ht]; exact stepE_wk hj
  · rcases h6 y hy with h8 | h8
    · exact .inl h8
    · exact .inr (by omega)
  · rcases h6 y hy with h8 | h8
    · exact .inl h8
    · exact .inr ⟨by omega, (h3'.ltX y hy).2⟩
/-- A worker's part that changes no list. -/
theorem qd_of (h : DoR w d db W B K s f) (hi : i < W) (t : StE) (hS : ∀ y ∈ S, y = d ∨ y = db) (hth : t.q.th = []) (hgs : (t.s.wk i).gs = (s.wk i).gs) (x' : DkV) (hA : x'.A = (f i).A) (hn : x'.n = (f i).n) (hc : x'.c = (f i).c)
    (hrel : RelK W (K + 1) ((t.s.nx i t.y).wk i) ((t.s.nx i t.y).P i) x') (E' : Int) (hE : E' = ((t.s.nx i t.y).E : Int)) {e : Ending} {qd : Bool} {qe qn : Int} (e1 : qd = t.q.d) (e2 : qe = (t.q.e : Int)) (e3 : qn = t.q.n) (hq : DsE (w.alloc RD) d db W E' (updF f i x') S qd qe qn e w6) :
    ∃ qd qe qn A l c, e = .returned (.agg #[.bool qd, .int .i64 qe, .int .i64 qn, .slice A l c]) ∧ QdE w d db W B K i f t qd qe qn A l c w6 ∧ Off [d, db] (w.alloc RD) w6 := by
  obtain ⟨rfl, h1, h2⟩ := hq
  have hb0 := (Below.refl w.heap.size w).alloc (Nat.le_refl _) RD
  have hof : Off S w w6 := (Off.of_below hb0).trans h2
  refine ⟨_, _, _, none, 0, 0, rfl, ⟨e1, e2, e3, by rw [hth]; rfl, x', by rw [← hE]; exact h1, hrel, ?_, by rw [hth]; exact World.ownsRow_nil _ _ _ _, hof.mono (fun y hy => by rcases hS y hy with e | e <;> simp [e]), fun y hy => .inl (by rwa [hA] at hy)⟩, h2.mono (fun y hy => by rcases hS y hy with e | e <;> simp [e])⟩
  rw [hA, hn, hc, EpV.wk_nx]
  show OwnC w6 B TTh 2 (f i).A (f i).n (f i).c (GVs (t.s.wk i).gs)
  rw [hgs]
  exact (h.row i hi).offX hof (fun y hy hm => by
    have := h.rd i hi y hy
    rcases hS y hm with e | e
    · exact this.2 e
    · exact this.1 e)
end
end Go.Proofs.Ytpjgpiiibgogeaa


/- EpochPlays: the document's Step, whatever the worker's call is. -/
namespace Go.Proofs.Ytpjgpiiibgogeaa
open Go.RowKit
set_option maxRecDepth 100000
set_option linter.unusedVariables false

section
variable {w w' w6 : World} {d db W B K K' : Nat} {s s' : EpV} {f : Nat → DkV} {S : List Nat} {i : Nat}
theorem hSb : ∀ y ∈ [db], y = d ∨ y = db := fun y hy => .inr (by simpa using hy)
theorem hSd : ∀ y ∈ [d, db], y = d ∨ y = db := fun y hy => by simpa using hy
theorem below_RD (w : World) : Below w.heap.size w (w.alloc RD) := (Below.refl w.heap.size w).alloc (Nat.le_refl _) RD
theorem dC_pin (h : DoR w d db W B K s f) (hi : i < W) (hn : (s.wk i).nx = .pin) (t : StE) (ht : stepE W s i = t) : Calls Try.prog 19 #[PV d, IV i] w (StX w d db W B K i f t) := by
  have r := h.rel i hi
  have hop := r.op
  have hpl := r.pl
  rw [hn] at hop hpl
  have et : stepE W s i = ⟨noEq, s, .mark 0 s.E⟩ := by unfold stepE; rw [hn]
  rw [et] at ht
  refine (dstep_pin h.dr i hi hop (QdE w d db W B K i f t) ?_).mono fun e w' hq => fin13 h hi (et.trans ht) hq
  subst ht
  refine (dpin_c1 (h.dr.below (below_RD w)) i hi 0 hpl (by omega) (f i).e rfl rfl).mono fun e w6 hq => ?_
  refine qd_of h hi _ hSb rfl rfl { f i with pl := 1, e := (s.E : Int) } rfl rfl rfl ?_ _ rfl rfl rfl rfl hq
  rw [EpV.wk_nx, EpV.P_nx]
  exact ⟨hop, r.pn, r.P, r.n, ⟨rfl, rfl⟩, by show 1 ≤ K + 1; omega⟩
theorem dC_mark (h : DoR w d db W B K s f) (hI : InvE W s) (hE : s.E ≤ K) (hK : K < 2305843009213693952) (hi : i < W) {old ep : Nat} (hn : (s.wk i).nx = .mark old ep) (t : StE) (ht : stepE W s i = t) : Calls Try.prog 19 #[PV d, IV i] w (StX w d db W B K i f t) := by
  have r := h.rel i hi
  have hop := r.op
  have hpl := r.pl
  have hbd := r.bd
  have hy := (hI.form i hi).y
  rw [hn] at hop hpl hy
  have hl := hI.len
  have et : stepE W s i = ⟨noEq, s.setW (i + 1) (ep + 1), .confirm ep⟩ := by
    unfold stepE; rw [hn]; simp only; rw [if_pos hy.2.1]
  rw [et] at ht
  refine (dstep_pin h.dr i hi hop (QdE w d db W B K i f t) ?_).mono fun e w' hq => fin13 h hi (et.trans ht) hq
  subst ht
  have he := hy.2.2.1
  have hpl1 := hpl.1
  refine (dpin_a (h.dr.below (below_RD w)) i hi (f i).pl rfl (by omega) (ep : Int) hpl.2 (by omega) (by omega) (by omega)).mono fun e w6 hq => ?_
  refine qd_of h hi _ hSb rfl rfl { f i with pl := (f i).pl + 1, P := (ep : Int) + 1 } rfl rfl rfl ?_ _ ?_ rfl rfl rfl hq
  · rw [EpV.wk_nx, EpV.P_nx, EpV.P_setW _ _ _ (by omega)]
    exact ⟨hop, r.pn, by show (ep : Int) + 1 = ((ep + 1 : Nat) : Int); omega, r.n, ⟨by show ((f i).pl + 1) % 2 = 0; omega, by show 2 ≤ (f i).pl + 1; omega, hpl.2⟩, by show (f i).pl + 1 ≤ K + 1; omega⟩
  · rw [EpV.E_nx, EpV.E_setW]
theorem dC_confirm (h : DoR w d db W B K s f) (hI : InvE W s) (hE : s.E ≤ K) (hK : K < 2305843009213693952) (hi : i < W) {ep : Nat} (hn : (s.wk i).nx = .confirm ep) (t : StE) (ht : stepE W s i = t) : Calls Try.prog 19 #[PV d, IV i] w (StX w d db W B K i f t) := by
  have r := h.rel i hi
  have hop := r.op
  have hpl := r.pl
  have hbd := r.bd
  have hy := (hI.form i hi).y
  rw [hn] at hop hpl hy
  have hpl1 := hpl.1
  have hpl2 := hpl.2.1
  by_cases he : s.E = ep
  · have et : stepE W s i = ⟨okEq ep, s.setK i { s.wk i with pin := ep + 1 }, .none⟩ := by unfold stepE; rw [hn]; simp only; rw [if_pos he]
    rw [et] at ht
    refine (dstep_pin h.dr i hi hop (QdE w d db W B K i f t) ?_).mono fun e w' hq => fin13 h hi (et.trans ht) hq
    subst ht
    refine (dpin_b (h.dr.below (below_RD w)) i hi (f i).pl rfl (by omega) (ep : Int) hpl.2.2 (by omega) (by omega) (by omega)).mono fun e w6 hq => ?_
    refine qd_of h hi _ hSb rfl ?_ { f i with pl := (f i).pl + 1, pn := true, op := 0 } rfl rfl rfl ?_ _ ?_ rfl rfl (by show (s.E : Int) = (ep : Int); omega) hq
    · simp only [EpV.wk_setK]
    · rw [EpV.wk_nx, EpV.P_nx, EpV.P_setK, EpV.wk_setK]
      exact ⟨rfl, by simp, r.P, r.n, trivial, by show (f i).pl + 1 ≤ K + 1; omega⟩
    · rw [EpV.E_nx, EpV.E_setK]
  · have et : stepE W s i = ⟨noEq, s, .mark (ep + 1) s.E⟩ := by unfold stepE; rw [hn]; simp only; rw [if_neg he]
    rw [et] at ht
    refine (dstep_pin h.dr i hi hop (QdE w d db W B K i f t) ?_).mono fun e w' hq => fin13 h hi (et.trans ht) hq
    subst ht
    refine (dpin_c2 (h.dr.below (below_RD w)) i hi (f i).pl rfl (by omega) (ep : Int) hpl.2.2 (by omega) (by omega) (by omega)).mono fun e w6 hq => ?_
    refine qd_of h hi _ hSb rfl rfl { f i with pl := (f i).pl + 1, e := (s.E : Int) } rfl rfl rfl ?_ _ rfl rfl rfl rfl hq
    rw [EpV.wk_nx, EpV.P_nx]
    exact ⟨hop, r.pn, r.P, r.n, ⟨by show ((f i).pl + 1) % 2 = 1; omega, rfl⟩, by show (f i).pl + 1 ≤ K + 1; omega⟩
theorem dC_advance (h : DoR w d db W B K s f) (hW : W ≤ 64) (hi : i < W) (hn : (s.wk i).nx = .advance) (t : StE) (ht : stepE W s i = t) : Calls Try.prog 19 #[PV d, IV i] w (StX w d db W B K i f t) := by
  have r := h.rel i hi
  have hop := r.op
  have hpl := r.pl
  rw [hn] at hop hpl
  have et : stepE W s i = ⟨noEq, s, .look 0 s.E⟩ := by unfold stepE; rw [hn]
  rw [et] at ht
  refine (dstep_adv h.dr i hi hop (QdE w d db W B K i f t) ?_).mono fun e w' hq => fin13 h hi (et.trans ht) hq
  subst ht
  refine (dadv_0 (h.dr.below (below_RD w)) i hi 0 hpl (by omega) (f i).e rfl rfl hW).mono fun e w6 hq => ?_
  refine qd_of h hi _ hSb rfl rfl { f i with pl := 1, e := (s.E : Int) } rfl rfl rfl ?_ _ rfl rfl rfl rfl hq
  rw [EpV.wk_nx, EpV.P_nx]
  exact ⟨hop, r.pn, r.P, r.n, ⟨rfl, rfl⟩, by show 1 ≤ K + 1; omega⟩
theorem dC_look (h : DoR w d db W B K s f) (hI : InvE W s) (hE : s.E ≤ K) (hK : K < 2305843009213693952) (hW : W ≤ 64) (hi : i < W) {j ep : Nat} (hn : (s.wk i).nx = .look j ep) (t : StE) (ht : stepE W s i = t) : Calls Try.prog 19 #[PV d, IV i] w (StX w d db W B K i f t) := by
  have r := h.rel i hi
  have hop := r.op
  have hpl := r.pl
  have hbd := r.bd
  have hy := (hI.form i hi).y
  rw [hn] at hop hpl hy
  have hj := hy.2.1
  have he := hy.2.2
  have hpl1 := hpl.1
  have hPj := (h.rel j hj).P
  by_cases hb : s.P j ≠ 0 ∧ s.P j ≠ ep + 1
  · have et : stepE W s i = ⟨⟨true, 9, 0, []⟩, s, .none⟩ := by unfold stepE; rw [hn]; simp only; rw [if_pos hb]
    rw [et] at ht
    refine (dstep_adv h.dr i hi hop (QdE w d db W B K i f t) ?_).mono fun e w' hq => fin13 h hi (et.trans ht) hq
    subst ht
    refine (dadv_busy (h.dr.below (below_RD w)) i hi j hj hpl1 hW (ep : Int) hpl.2 _ hPj (by omega) (by omega) (by omega) (by omega)).mono fun e w6 hq => ?_
    refine qd_of h hi _ hSb rfl rfl { f i with pl := j + 2, op := 0 } rfl rfl rfl ?_ _ rfl rfl rfl rfl hq
    rw [EpV.wk_nx, EpV.P_nx]
    exact ⟨rfl, r.pn, r.P, r.n, trivial, by show j + 2 ≤ K + 1; omega⟩
  · have hq0 : Calls Try.prog 59 #[PV d, .pointer (some ⟨db, i * 7, none⟩)] (w.alloc RD) (DsE (w.alloc RD) d db W (s.E : Int) (updF f i { f i with pl := j + 2 }) [db] false 0 0) := by
      by_cases h0 : s.P j = 0
      · exact dadv_ok0 (h.dr.below (below_RD w)) i hi j hj hpl1 hW (ep : Int) hpl.2 _ hPj (by omega) (by omega) (by omega)
      · exact dadv_ok1 (h.dr.below (below_RD w)) i hi j hj hpl1 hW (ep : Int) hpl.2 _ hPj (by omega) (by omega) (by omega) (by omega)
    by_cases hj1 : j + 1 < W
    · have et : stepE W s i = ⟨noEq, s, .look (j + 1) ep⟩ := by unfold stepE; rw [hn]; simp only; rw [if_neg hb, if_pos hj1]
      rw [et] at ht
      refine (dstep_adv h.dr i hi hop (QdE w d db W B K i f t) ?_).mono fun e w' hq => fin13 h hi (et.trans ht) hq
      subst ht
      refine hq0.mono fun e w6 hq => ?_
      refine qd_of h hi _ hSb rfl rfl { f i with pl := j + 2 } rfl rfl rfl ?_ _ rfl rfl rfl rfl hq
      rw [EpV.wk_nx, EpV.P_nx]
      exact ⟨hop, r.pn, r.P, r.n, ⟨rfl, hpl.2⟩, by show j + 2 ≤ K + 1; omega⟩
    · have et : stepE W s i = ⟨noEq, s, .move ep⟩ := by unfold stepE; rw [hn]; simp only; rw [if_neg hb, if_neg hj1]
      rw [et] at ht
      refine (dstep_adv h.dr i hi hop (QdE w d db W B K i f t) ?_).mono fun e w' hq => fin13 h hi (et.trans ht) hq
      subst ht
      refine hq0.mono fun e w6 hq => ?_
      refine qd_of h hi _ hSb rfl rfl { f i with pl := j + 2 } rfl rfl rfl ?_ _ rfl rfl rfl rfl hq
      rw [EpV.wk_nx, EpV.P_nx]
      exact ⟨hop, r.pn, r.P, r.n, ⟨by show j + 2 = W + 1; omega, hpl.2⟩, by show j + 2 ≤ K + 1; omega⟩
theorem dC_move (h : DoR w d db W B K s f) (hI : InvE W s) (hE : s.E ≤ K) (hK : K < 2305843009213693952) (hW : W ≤ 64) (hi : i < W) {ep : Nat} (hn : (s.wk i).nx = .move ep) (t : StE) (ht : stepE W s i = t) : Calls Try.prog 19 #[PV d, IV i] w (StX w d db W B K i f t) := by
  have r := h.rel i hi
  have hop := r.op
  have hpl := r.pl
  have hbd := r.bd
  rw [hn] at hop hpl
  have hpl1 := hpl.1
  have hl := hI.len
  by_cases he : s.E = ep
  · have et : stepE W s i = ⟨okEq (ep + 1), s.setW 0 (ep + 1), .none⟩ := by unfold stepE; rw [hn]; simp only; rw [if_pos he]
    rw [et] at ht
    refine (dstep_adv h.dr i hi hop (QdE w d db W B K i f t) ?_).mono fun e w' hq => fin13 h hi (et.trans ht) hq
    subst ht
    refine (dadv_yes (h.dr.below (below_RD w)) i hi hpl1 hW (ep : Int) hpl.2 (by omega) (by omega) (by omega)).mono fun e w6 hq => ?_
    refine qd_of h hi _ hSd rfl rfl { f i with pl := W + 2, op := 0 } rfl rfl rfl ?_ _ ?_ rfl rfl (by show (s.E : Int) + 1 = (ep : Int) + 1; omega) hq
    · rw [EpV.wk_nx, EpV.P_nx, EpV.P_setW0]
      exact ⟨rfl, r.pn, r.P, r.n, trivial, by show W + 2 ≤ K + 1; omega⟩
    · rw [EpV.E_nx, EpV.E_setW0 _ _ (by omega)]; omega
  · have et : stepE W s i = ⟨okEq 0, s, .none⟩ := by unfold stepE; rw [hn]; simp only; rw [if_neg he]
    rw [et] at ht
    refine (dstep_adv h.dr i hi hop (QdE w d db W B K i f t) ?_).mono fun e w' hq => fin13 h hi (et.trans ht) hq
    subst ht
    refine (dadv_no (h.dr.below (below_RD w)) i hi hpl1 hW (ep : Int) hpl.2 (by omega)).mono fun e w6 hq => ?_
    refine qd_of h hi _ hSb rfl rfl { f i with pl := W + 2, op := 0 } rfl rfl rfl ?_ _ rfl rfl rfl rfl hq
    rw [EpV.wk_nx, EpV.P_nx]
    exact ⟨rfl, r.pn, r.P, r.n, trivial, by show W + 2 ≤ K + 1; omega⟩
end
end Go.Proofs.Ytpjgpiiibgogeaa


/- EpochPlays: the document's Step and Start beside the program's. -/
namespace Go.Proofs.Ytpjgpiiibgogeaa
open Go.RowKit
set_option maxRecDepth 100000
set_option linter.unusedVariables false

section
variable {w w' w6 : World} {d db W B K K' : Nat} {s s' : EpV} {f : Nat → DkV} {S : List Nat} {i : Nat}
theorem dC_unpin (h : DoR w d db W B K s f) (hI : InvE W s) (hi : i < W) (hn : (s.wk i).nx = .unpin) (t : StE) (ht : stepE W s i = t) : Calls Try.prog 19 #[PV d, IV i] w (StX w d db W B K i f t) := by
  have r := h.rel i hi
  have hop := r.op
  have hbd := r.bd
  have hy := (hI.form i hi).y
  rw [hn] at hop hy
  have hl := hI.len
  have et : stepE W s i = ⟨okEq 0, (s.setW (i + 1) 0).setK i { s.wk i with pin := 0 }, .none⟩ := by
    unfold stepE; rw [hn]; simp only; rw [if_pos (show s.P i = (s.wk i).pin from hy)]
  rw [et] at ht
  refine (dstep_unpin h.dr i hi hop).mono fun e w' hq => fin13 h hi (et.trans ht) (DtE.mono ?_ hq)
  subst ht
  rintro qd qe qn A l c w6 ⟨rfl, rfl, rfl, rfl, rfl, rfl, h1, h2⟩
  refine ⟨rfl, rfl, rfl, rfl, { f i with P := 0, pn := false, op := 0 }, ?_, ?_, ?_, World.ownsRow_nil _ _ _ _, h2.mono (by simp), fun y hy => .inl hy⟩
  · rw [EpV.E_nx, EpV.E_setK, EpV.E_setW]; exact h1
  · rw [EpV.wk_nx, EpV.P_nx, EpV.P_setK, EpV.wk_setK, EpV.P_setW _ _ _ (by omega)]
    exact ⟨rfl, rfl, rfl, r.n, trivial, by show (f i).pl ≤ K + 1; omega⟩
  · rw [EpV.wk_nx, EpV.wk_setK]
    exact (h.row i hi).offX h2 (fun y hy hm => (h.rd i hi y hy).1 (by simpa using hm))
theorem dC_retire (h : DoR w d db W B K s f) (hI : InvE W s) (hi : i < W) {x : Int} (hn : (s.wk i).nx = .retire x) (t : StE) (ht : stepE W s i = t) : Calls Try.prog 19 #[PV d, IV i] w (StX w d db W B K i f t) := by
  have r := h.rel i hi
  have hop := r.op
  have hpl := r.pl
  have hbd := r.bd
  have hy := (hI.form i hi).y
  rw [hn] at hop hy hpl
  have hx : (f i).t = x := hpl
  have et : stepE W s i = ⟨okEq s.E, s.setK i { s.wk i with gs := (s.wk i).gs ++ [(x, s.E)] }, .none⟩ := by
    unfold stepE; rw [hn]
  rw [et] at ht
  refine (dstep_retire h.dr i hi hop B (s.wk i).gs r.n (h.row i hi) hy.2 (h.rd i hi) h.le).mono fun e w' hq => fin13 h hi (et.trans ht) (DtE.mono ?_ hq)
  subst ht
  rintro qd qe qn A l c w6 ⟨rfl, rfl, rfl, rfl, rfl, rfl, g', c', h1, h2, h3, h4⟩
  rw [hx] at h2
  refine ⟨rfl, rfl, rfl, rfl, { f i with A := some ⟨g', 0, none⟩, n := (s.wk i).gs.length + 1, c := c', op := 0 }, ?_, ?_, ?_, World.ownsRow_nil _ _ _ _, h4.mono (fun y hy => List.mem_cons_of_mem _ hy), fun y hy => ?_⟩
  · rw [EpV.E_nx, EpV.E_setK]; exact h1
  · rw [EpV.wk_nx, EpV.P_nx, EpV.P_setK, EpV.wk_setK]
    exact ⟨rfl, r.pn, r.P, by simp, trivial, by show (f i).pl ≤ K + 1; omega⟩
  · rw [EpV.wk_nx, EpV.wk_setK]; exact h2
  · have e : y = g' := by simpa [thX] using hy
    rw [e]; exact h3
theorem dC_collect (h : DoR w d db W B K s f) (hI : InvE W s) (hE : s.E ≤ K) (hK : K < 2305843009213693952) (hi : i < W) (hn : (s.wk i).nx = .collect) (t : StE) (ht : stepE W s i = t) : Calls Try.prog 19 #[PV d, IV i] w (StX w d db W B K i f t) := by
  have r := h.rel i hi
  have hop := r.op
  have hbd := r.bd
  have hF := hI.form i hi
  rw [hn] at hop
  have et : stepE W s i = ⟨⟨true, 0, oldN s.E (s.wk i).gs, ((s.wk i).gs.take (oldN s.E (s.wk i).gs)).map (·.1)⟩, s.setK i { s.wk i with gs := (s.wk i).gs.drop (oldN s.E (s.wk i).gs) }, .none⟩ := by
    unfold stepE; rw [hn]
  rw [et] at ht
  refine (dstep_col h.dr i hi hop (QdE w d db W B K i f t) ?_).mono fun e w' hq => fin13 h hi (et.trans ht) hq
  subst ht
  have hol := oldN_le s.E (s.wk i).gs
  refine (dcol_any (h.dr.below (below_RD w)) i hi B (s.wk i).gs r.n ((h.row i hi).below (below_RD w)) hF.len hF.srt (fun y hy => (h.rd i hi y hy).1) (by omega) _ rfl).mono fun e w6 hq => ?_
  obtain ⟨Ar, cr, As, cs, rfl, h1, h2, h3, h4, h5⟩ := hq
  rw [World.size_alloc] at h2 h3
  have hle := h.le
  refine ⟨_, _, _, Ar, _, cr, rfl, ⟨rfl, rfl, rfl, ?_, { f i with op := 0, A := As, n := ((s.wk i).gs.drop (oldN s.E (s.wk i).gs)).length, c := cs }, ?_, ?_, ?_, h2, ((Off.of_below (below_RD w)).trans h5).mono (by simp), fun y hy => .inr ?_⟩, h5.mono (by simp)⟩
  · simp only [List.length_map, List.length_take]; omega
  · rw [EpV.E_nx, EpV.E_setK]; exact h1
  · rw [EpV.wk_nx, EpV.P_nx, EpV.P_setK, EpV.wk_setK]
    exact ⟨rfl, r.pn, r.P, rfl, trivial, by show (f i).pl ≤ K + 1; omega⟩
  · rw [EpV.wk_nx, EpV.wk_setK]; exact h3.lower (by omega)
  · have := (h3.ltX y hy).1; omega
/-- The document's Step, whatever the worker's call is. -/
theorem dstepC (h : DoR w d db W B K s f) (hI : InvE W s) (hE : s.E ≤ K) (hK : K < 2305843009213693952) (hW : W ≤ 64) (hi : i < W) (hp : isEN (s.wk i).nx = true) (t : StE) (ht : stepE W s i = t) : Calls Try.prog 19 #[PV d, IV i] w (StX w d db W B K i f t) := by
  cases hn : (s.wk i).nx with
  | none => rw [hn] at hp; cases hp
  | pin => exact dC_pin h hi hn t ht
  | mark old e => exact dC_mark h hI hE hK hi hn t ht
  | confirm e => exact dC_confirm h hI hE hK hi hn t ht
  | unpin => exact dC_unpin h hI hi hn t ht
  | retire x => exact dC_retire h hI hi hn t ht
  | advance => exact dC_advance h hW hi hn t ht
  | look j e => exact dC_look h hI hE hK hW hi hn t ht
  | move e => exact dC_move h hI hE hK hW hi hn t ht
  | collect => exact dC_collect h hI hE hK hi hn t ht
theorem opY_pos {y : EN} : isEN y = true ↔ opY y ≠ 0 := by cases y <;> simp [isEN, opY]
theorem dstepN (h : DoR w d db W B K s f) (hi : i < W) (hp : isEN (s.wk i).nx = false) : Calls Try.prog 19 #[PV d, IV i] w (SnE w 7) := by
  have r := h.rel i hi
  refine dstep_none h.dr i hi ?_
  rw [r.op]
  cases hn : (s.wk i).nx <;> rw [hn] at hp <;> first | rfl | cases hp
theorem dpendC (h : DoR w d db W B K s f) (hi : i < W) : Calls Try.prog 23 #[PV d, IV i] w fun e w' => e = .returned (.bool (isEN (s.wk i).nx)) ∧ w = w' := by
  refine dpend_any h.dr i hi _ ?_
  rw [(h.rel i hi).op]
  cases (s.wk i).nx <;> rfl
theorem dpinC (h : DoR w d db W B K s f) (hi : i < W) (r : Bool) (hr : ((s.wk i).pin != 0) = r) : Calls Try.prog 25 #[PV d, IV i] w fun e w' => e = .returned (.bool r) ∧ w = w' := by
  have := dpin_any h.dr i hi
  rw [(h.rel i hi).pn, hr] at this
  exact this
theorem dheldC (h : DoR w d db W B K s f) (hI : InvE W s) (hi : i < W) (n : Nat) (hn : (s.wk i).gs.length = n) : Calls Try.prog 29 #[PV d, IV i] w (HhE w n ((s.wk i).gs.map (·.1))) :=
  dheld_any h.dr i hi B _ n ((h.rel i hi).n.trans hn) hn (h.row i hi) (by have := (hI.form i hi).len; omega)
/-- The document's Start, where it begins. -/
theorem dstartC (h : DoR w d db W B K s f) (hi : i < W) (op : Nat) (t : Int) (h1 : 1 ≤ op) (h5 : op ≤ 5) (hc : checkE (s.wk i) op = 0) :
    Calls Try.prog 17 #[PV d, IV i, .int .u8 (op : Int), .int .i64 t] w fun e w' => e = .returned (.int .i64 0) ∧ DoR w' d db W B K (s.nx i (firstE op t)) (updF f i { f i with op := op, pl := 0, t := t }) ∧ Off [db] w w' := by
  have r := h.rel i hi
  obtain ⟨c1, c2, c3, c4⟩ := checkE_0 hc
  have hop : (f i).op = 0 := by rw [r.op, c1]; rfl
  have key : ∀ (w' : World), DrS w' d db W (s.E : Int) (updF f i { f i with op := op, pl := 0, t := t }) → Off [db] w w' → DoR w' d db W B K (s.nx i (firstE op t)) (updF f i { f i with op := op, pl := 0, t := t }) := by
    intro w' k1 k2
    refine h.upd hi (by rw [EpV.E_nx]; exact k1) (k2.mono (by simp)) (fun j hj => EpV.P_nx _ _ _ _) (fun j hj => EpV.wk_nx' _ _ _ hj) ?_ (Nat.le_refl _) ?_ (fun y hy => .inl hy)
    · rw [EpV.wk_nx, EpV.P_nx]
      refine ⟨(opY_first op t h1 h5).1.symm, r.pn, r.P, r.n, ?_, Nat.zero_le _⟩
      rcases (by omega : op = 1 ∨ op = 2 ∨ op = 3 ∨ op = 4 ∨ op = 5) with rfl | rfl | rfl | rfl | rfl
      · exact rfl
      · exact trivial
      · exact rfl
      · exact rfl
      · exact trivial
    · rw [EpV.wk_nx]
      exact (h.row i hi).offX k2 (fun y hy hm => (h.rd i hi y hy).1 (by simpa using hm))
  rcases (by omega : op = 1 ∨ op = 2 ∨ op = 3 ∨ op = 4 ∨ op = 5) with rfl | rfl | rfl | rfl | rfl
  · exact (dstart_ok1 h.dr i hi t hop (by rw [r.pn, c3 rfl]; rfl)).mono fun e w' ⟨k0, k1, k2⟩ => ⟨k0, key w' k1 k2, k2⟩
  · exact (dstart_ok2 h.dr i hi t hop (by rw [r.pn]; simpa using c2 rfl)).mono fun e w' ⟨k0, k1, k2⟩ => ⟨k0, key w' k1 k2, k2⟩
  · exact (dstart_ok3 h.dr i hi t hop (by rw [r.n]; exact c4 rfl)).mono fun e w' ⟨k0, k1, k2⟩ => ⟨k0, key w' k1 k2, k2⟩
  · exact (dstart_ok4 h.dr i hi t hop).mono fun e w' ⟨k0, k1, k2⟩ => ⟨k0, key w' k1 k2, k2⟩
  · exact (dstart_ok5 h.dr i hi t hop).mono fun e w' ⟨k0, k1, k2⟩ => ⟨k0, key w' k1 k2, k2⟩
/-- Where it doesn't. -/
theorem dstartN (h : DoR w d db W B K s f) (hi : i < W) (op : Nat) (t : Int) (h1 : 1 ≤ op) (h5 : op ≤ 5) (hc : checkE (s.wk i) op ≠ 0) :
    Calls Try.prog 17 #[PV d, IV i, .int .u8 (op : Int), .int .i64 t] w fun e w' => e = .returned (.int .i64 (checkE (s.wk i) op : Nat)) ∧ w = w' := by
  have r := h.rel i hi
  unfold checkE at hc ⊢
  by_cases hb : isEN (s.wk i).nx = true
  · rw [if_pos hb]
    exact dstart_busy h.dr i hi op h1 h5 t (by rw [r.op]; exact opY_pos.1 hb)
  · rw [if_neg hb] at hc ⊢
    have hop : (f i).op = 0 := by
      rw [r.op]
      rcases Nat.eq_zero_or_pos (opY (s.wk i).nx) with e | e
      · exact e
      · exact absurd (opY_pos.2 (by omega)) hb
    by_cases h2 : op = 2 ∧ (s.wk i).pin = 0
    · rw [if_pos h2]
      obtain ⟨rfl, h2⟩ := h2
      exact dstart_no2 h.dr i hi t hop (by rw [r.pn, h2]; rfl)
    · rw [if_neg h2] at hc ⊢
      by_cases h3 : op = 1 ∧ (s.wk i).pin ≠ 0
      · rw [if_pos h3]
        obtain ⟨rfl, h3⟩ := h3
        exact dstart_no1 h.dr i hi t hop (by rw [r.pn]; simpa using h3)
      · rw [if_neg h3] at hc ⊢
        by_cases h4 : op = 3 ∧ 4096 ≤ (s.wk i).gs.length
        · rw [if_pos h4]
          obtain ⟨rfl, h4⟩ := h4
          exact dstart_no3 h.dr i hi t hop (by rw [r.n]; exact h4)
        · rw [if_neg h4] at hc
          exact absurd rfl hc
end
end Go.Proofs.Ytpjgpiiibgogeaa


/- EpochPlays: both sides in one world. -/
namespace Go.Proofs.Ytpjgpiiibgogeaa
open Go.RowKit
set_option maxRecDepth 100000
set_option linter.unusedVariables false

def KpZ (Z : List Nat) (w w' : World) : Prop := ∃ S, Off S w w' ∧ ∀ z ∈ Z, z ∉ S
/-- Both sides, X apart from the program's blocks, Z apart from all. -/
structure PyN (w wr : World) (x d db n kP kD : Nat) (X Z : List Nat) (sP sD : EpV) (f : Nat → DkV) : Prop where
  c : EpC w wr x n X kP sP
  r : DoR wr d db n w.heap.size kD sD f
  inv : InvE n sD
  e : sD.E ≤ kD
  dx : d ∈ X ∧ db ∈ X
  rx : ∀ i, i < n → ∀ y ∈ thX (f i).A, y ∈ X
  dg : w.heap.size ≤ d ∧ w.heap.size ≤ db
  z : ∀ z ∈ Z, z ∈ X ∧ w.heap.size ≤ z ∧ z ≠ d ∧ z ≠ db ∧ ∀ i, i < n → z ∉ thX (f i).A
/-- The same, where both may be nil. -/
def PyS (w wr : World) (xv dv : Value) (n kP kD : Nat) (Z : List Nat) (sP sD : EpV) : Prop :=
  (xv = .pointer none ∧ dv = .pointer none ∧ n = 0 ∧ sP.E = 0 ∧ sD.E = 0 ∧ Below w.heap.size w wr ∧ ∀ z ∈ Z, w.heap.size ≤ z) ∨
  ∃ x d db f X, xv = PV x ∧ dv = PV d ∧ PyN w wr x d db n kP kD X Z sP sD f
section
variable {w wr w' : World} {x d db n kP kD kP' kD' : Nat} {X X' Z Z' Y S : List Nat} {sP sD sP' sD' s : EpV} {f f' : Nat → DkV} {xv dv : Value}
theorem KpZ.blk {z : Nat} {vs : List Value} (h : KpZ Z w w') (hk : BlkL w z vs) (hz : z ∈ Z) : BlkL w' z vs := by
  obtain ⟨S, h1, h2⟩ := h
  exact hk.off h1 (h2 z hz)
theorem KpZ.own {B k m c : Nat} {T : TypeId} {A : Option Addr} {cs : List Value} (h : KpZ Z w w') (ho : OwnC w B T k A m c cs) (hz : ∀ y ∈ thX A, y ∈ Z) : OwnC w' B T k A m c cs := by
  obtain ⟨S, h1, h2⟩ := h
  exact ho.offX h1 (fun y hy => h2 y (hz y hy))
theorem KpZ.of_below (h : Below w.heap.size w w') : KpZ Z w w' := ⟨[], Off.of_below h, by simp⟩
theorem KpZ.size (h : KpZ Z w w') : w.heap.size ≤ w'.heap.size := by obtain ⟨S, h1, _⟩ := h; exact h1.size
theorem PyN.prog (h : PyN w wr x d db n kP kD X Z sP sD f) (hf : FrX w.heap.size X wr w') (c' : EpC w w' x n (Y ++ X) kP' sP') (hY : ∀ y ∈ Y, wr.heap.size ≤ y) : PyN w w' x d db n kP' kD (Y ++ X) (Y ++ Z) sP' sD f ∧ KpZ Z wr w' := by
  obtain ⟨S, h1, h2⟩ := hf
  have hb := h.c.bel.size
  have ld := h.r.dr.hd.lt
  have lb := h.r.dr.wk.lt
  refine ⟨⟨c', h.r.off h1 (fun hm => (h2 _ hm).2 h.dx.1) (fun hm => (h2 _ hm).2 h.dx.2) (fun j hj y hy hm => (h2 _ hm).2 (h.rx j hj y hy)), h.inv, h.e, ⟨List.mem_append_right _ h.dx.1, List.mem_append_right _ h.dx.2⟩, fun i hi y hy => List.mem_append_right _ (h.rx i hi y hy), h.dg, fun z hz => ?_⟩, ⟨S, h1, fun z hz hm => (h2 _ hm).2 (h.z z hz).1⟩⟩
  rcases List.mem_append.1 hz with hz | hz
  · have := hY z hz
    exact ⟨List.mem_append_left _ hz, by omega, by omega, by omega, fun i hi hm => by have := ((h.r.row i hi).ltX z hm).2; omega⟩
  · obtain ⟨a, b⟩ := h.z z hz
    exact ⟨List.mem_append_right _ a, b⟩
theorem PyN.doc (h : PyN w wr x d db n kP kD X Z sP sD f) (hof : Off S wr w') (hS : ∀ y ∈ S, y = d ∨ y = db ∨ ∃ i, i < n ∧ y ∈ thX (f i).A) (r' : DoR w' d db n w.heap.size kD' sD' f') (hI : InvE n sD') (hE : sD'.E ≤ kD')
    (hX : ∀ y ∈ X', y ∈ X ∨ (wr.heap.size ≤ y ∧ y < w'.heap.size)) (hsub : ∀ y ∈ X, y ∈ X') (hrx : ∀ i, i < n → ∀ y ∈ thX (f' i).A, y ∈ X') (hnew : ∀ i, i < n → ∀ y ∈ thX (f' i).A, y ∈ thX (f i).A ∨ wr.heap.size ≤ y) :
    PyN w w' x d db n kP kD' X' Z sP sD' f' ∧ KpZ Z wr w' := by
  have hx := h.c.hX
  have hSX : ∀ y ∈ S, y ∈ X ∧ w.heap.size ≤ y := fun y hy => by
    rcases hS y hy with rfl | rfl | ⟨i, hi, hm⟩
    · exact ⟨h.dx.1, h.dg.1⟩
    · exact ⟨h.dx.2, h.dg.2⟩
    · exact ⟨h.rx i hi y hm, ((h.r.row i hi).ltX y hm).1⟩
  refine ⟨⟨h.c.reOff hof hSX hX, r', hI, hE, ⟨hsub _ h.dx.1, hsub _ h.dx.2⟩, hrx, h.dg, fun z hz => ?_⟩, ⟨S, hof, fun z hz hm => ?_⟩⟩
  · obtain ⟨a, b, c, e, g⟩ := h.z z hz
    refine ⟨hsub _ a, b, c, e, fun i hi hm => ?_⟩
    rcases hnew i hi z hm with h1 | h1
    · exact g i hi h1
    · have := hx z a; omega
  · obtain ⟨a, b, c, e, g⟩ := h.z z hz
    rcases hS z hm with h1 | h1 | ⟨i, hi, h1⟩
    · exact c h1
    · exact e h1
    · exact g i hi h1
theorem PyN.below (h : PyN w wr x d db n kP kD X Z sP sD f) (hb : Below wr.heap.size wr w') : PyN w w' x d db n kP kD X Z sP sD f :=
  ⟨h.c.below hb, h.r.below hb, h.inv, h.e, h.dx, h.rx, h.dg, h.z⟩
theorem PyS.bel (h : PyS w wr xv dv n kP kD Z sP sD) : Below w.heap.size w wr := by
  rcases h with ⟨_, _, _, _, _, h, _⟩ | ⟨x, d, db, f, X, _, _, h⟩
  · exact h
  · exact h.c.bel
theorem PyS.below (h : PyS w wr xv dv n kP kD Z sP sD) (hb : Below wr.heap.size wr w') : PyS w w' xv dv n kP kD Z sP sD := by
  have hs := h.bel.size
  rcases h with ⟨h1, h2, h3, h4, h5, h6, h7⟩ | ⟨x, d, db, f, X, h1, h2, h⟩
  · exact .inl ⟨h1, h2, h3, h4, h5, h6.trans (hb.mono hs), h7⟩
  · exact .inr ⟨x, d, db, f, X, h1, h2, h.below hb⟩
theorem PyS.less (h : PyS w wr xv dv n kP kD Z sP sD) (hz : ∀ z ∈ Z', z ∈ Z) : PyS w wr xv dv n kP kD Z' sP sD := by
  rcases h with ⟨h1, h2, h3, h4, h5, h6, h7⟩ | ⟨x, d, db, f, X, h1, h2, h⟩
  · exact .inl ⟨h1, h2, h3, h4, h5, h6, fun z m => h7 z (hz z m)⟩
  · exact .inr ⟨x, d, db, f, X, h1, h2, ⟨h.c, h.r, h.inv, h.e, h.dx, h.rx, h.dg, fun z m => h.z z (hz z m)⟩⟩
/-- New blocks that are the law's own. -/
theorem PyS.addZ (h : PyS w wr xv dv n kP kD Z sP sD) (hb : Below wr.heap.size wr w') (hY : ∀ y ∈ Y, wr.heap.size ≤ y ∧ y < w'.heap.size) : PyS w w' xv dv n kP kD (Y ++ Z) sP sD := by
  have hs := h.bel.size
  rcases h with ⟨h1, h2, h3, h4, h5, h6, h7⟩ | ⟨x, d, db, f, X, h1, h2, h⟩
  · refine .inl ⟨h1, h2, h3, h4, h5, h6.trans (hb.mono hs), fun z m => ?_⟩
    rcases List.mem_append.1 m with m | m
    · have := hY z m; omega
    · exact h7 z m
  · refine .inr ⟨x, d, db, f, Y ++ X, h1, h2, (h.prog (FrX.of_below hb) (h.c.reX hb (fun y m => ?_)) (fun y m => (hY y m).1)).1⟩
    rcases List.mem_append.1 m with m | m
    · exact .inr (hY y m)
    · exact .inl m
theorem PyS.newZ (h : PyS w wr xv dv n kP kD Z sP sD) (o : Obj) : PyS w (wr.alloc o) xv dv n kP kD (wr.heap.size :: Z) sP sD :=
  h.addZ (Y := [wr.heap.size]) ((Below.refl _ _).alloc (Nat.le_refl _) o) (fun y m => by
    simp only [List.mem_cons, List.not_mem_nil, or_false] at m
    subst m; simp)
/-- Stores into the law's own blocks. -/
theorem PyS.put (h : PyS w wr xv dv n kP kD Z sP sD) (hf : Off S wr w') (hS : ∀ y ∈ S, y ∈ Z) : PyS w w' xv dv n kP kD Z sP sD := by
  have hs := h.bel.size
  rcases h with ⟨h1, h2, h3, h4, h5, h6, h7⟩ | ⟨x, d, db, f, X, h1, h2, h⟩
  · exact .inl ⟨h1, h2, h3, h4, h5, h6.trans (hf.below hs (fun y m => h7 y (hS y m))), h7⟩
  · refine .inr ⟨x, d, db, f, X, h1, h2, ⟨h.c.putX hf (fun y m => ⟨(h.z y (hS y m)).1, (h.z y (hS y m)).2.1⟩), h.r.off hf (fun m => (h.z _ (hS _ m)).2.2.1 rfl) (fun m => (h.z _ (hS _ m)).2.2.2.1 rfl) (fun j hj y hy m => (h.z _ (hS _ m)).2.2.2.2 j hj hy), h.inv, h.e, h.dx, h.rx, h.dg, h.z⟩⟩
/-- Whose number it is. -/
theorem PyS.in_ (h : PyS w wr xv dv n kP kD Z sP sD) (hn : 0 < n) : ∃ x d db f X, xv = PV x ∧ dv = PV d ∧ PyN w wr x d db n kP kD X Z sP sD f := by
  rcases h with ⟨h1, h2, h3, _⟩ | h
  · omega
  · exact h
theorem PyS.isW (h : PyS w wr xv dv n kP kD Z sP sD) (who : Int) (hw : inB who n = false) : Calls Try.prog 53 #[xv, .int .i64 who] wr fun e w' => e = .returned (.bool false) ∧ wr = w' := by
  rcases h with ⟨rfl, _⟩ | ⟨x, d, db, f, X, rfl, _, h⟩
  · exact isW_nil wr who
  · obtain ⟨b, bw, wb, fv, rA, rc, ring, e⟩ := h.c.ex
    have := isW_any e who
    rw [hw] at this
    exact this
theorem PyS.there (h : PyS w wr xv dv n kP kD Z sP sD) (who : Int) (hw : inB who n = false) : Calls Try.prog 56 #[dv, .int .i64 who] wr fun e w' => e = .returned (.bool false) ∧ wr = w' := by
  rcases h with ⟨_, rfl, _⟩ | ⟨x, d, db, f, X, _, rfl, h⟩
  · exact there_nil wr who
  · have := there_any h.r.dr who
    rw [hw] at this
    exact this
end
end Go.Proofs.Ytpjgpiiibgogeaa


/- EpochPlays: Start, Step and what is asked, of both sides. -/
namespace Go.Proofs.Ytpjgpiiibgogeaa
open Go.RowKit
set_option maxRecDepth 100000
set_option linter.unusedVariables false

theorem inB_nat {who : Int} {n : Nat} (h : inB who n = true) : ∃ i : Nat, who = (i : Int) ∧ i < n := by
  have := inB_iff.mp h
  exact ⟨who.toNat, by omega, by omega⟩
section
variable {w wr w' : World} {x d db n kP kD kP' kD' : Nat} {X X' Z Z' Y S : List Nat} {sP sD sP' sD' s : EpV} {f f' : Nat → DkV} {xv dv : Value}
/-- The program's Start answers so. -/
def StP (w : World) (xv dv : Value) (n kP : Nat) (Z : List Nat) (s s' : EpV) (who : Int) (op : Nat) (t r : Int) : Prop :=
  ∀ W kD sD, PyS w W xv dv n kP kD Z s sD → Calls Try.prog 16 #[xv, .int .i64 who, .int .u8 (op : Int), .int .i64 t] W fun e w' => e = .returned (.int .i64 r) ∧ PyS w w' xv dv n kP kD Z s' sD ∧ KpZ Z W w'
/-- The document's Start answers so. -/
def StD (w : World) (xv dv : Value) (n kD : Nat) (Z : List Nat) (s s' : EpV) (who : Int) (op : Nat) (t r : Int) : Prop :=
  ∀ W kP sP, PyS w W xv dv n kP kD Z sP s → Calls Try.prog 17 #[dv, .int .i64 who, .int .u8 (op : Int), .int .i64 t] W fun e w' => e = .returned (.int .i64 r) ∧ PyS w w' xv dv n kP kD Z sP s' ∧ KpZ Z W w'
theorem starts13 (h : PyS w wr xv dv n kP kD Z s s) (who : Int) (op : Nat) (t : Int) : ∃ r s', StP w xv dv n kP Z s s' who op t r ∧ StD w xv dv n kD Z s s' who op t r := by
  rcases hw : inB who n with _ | _
  · refine ⟨1, s, fun W kD sD hW => ?_, fun W kP sP hW => ?_⟩
    · exact (estart_who W xv who op t (Lib.hid (hW.isW who hw))).mono fun e w' ⟨h1, h2⟩ => ⟨h1, h2 ▸ hW, h2 ▸ KpZ.of_below (Below.refl _ _)⟩
    · exact (dstart_who W dv who op t (hW.there who hw)).mono fun e w' ⟨h1, h2⟩ => ⟨h1, h2 ▸ hW, h2 ▸ KpZ.of_below (Below.refl _ _)⟩
  · obtain ⟨i, rfl, hi⟩ := inB_nat hw
    by_cases ho : op < 1 ∨ 5 < op
    · refine ⟨1, s, fun W kD sD hW => ?_, fun W kP sP hW => ?_⟩
      · obtain ⟨x, d, db, f, X, rfl, rfl, hN⟩ := hW.in_ (by omega)
        obtain ⟨b, bw, wb, fv, rA, rc, ring, e⟩ := hN.c.ex
        exact (estart_op e (i : Int) hw op t ho).mono fun e w' ⟨h1, h2⟩ => ⟨h1, h2 ▸ hW, h2 ▸ KpZ.of_below (Below.refl _ _)⟩
      · obtain ⟨x, d, db, f, X, rfl, rfl, hN⟩ := hW.in_ (by omega)
        exact (dstart_op hN.r.dr i hi op t ho).mono fun e w' ⟨h1, h2⟩ => ⟨h1, h2 ▸ hW, h2 ▸ KpZ.of_below (Below.refl _ _)⟩
    · by_cases hc : checkE (s.wk i) op = 0
      · refine ⟨0, s.nx i (firstE op t), fun W kD sD hW => ?_, fun W kP sP hW => ?_⟩
        · obtain ⟨x, d, db, f, X, rfl, rfl, hN⟩ := hW.in_ (by omega)
          refine (estartC hN.c i hi op t (by omega) (by omega) hc).mono fun e w' ⟨h1, h2, h3⟩ => ?_
          have := hN.prog (Y := []) h3 h2 (by simp)
          exact ⟨h1, .inr ⟨x, d, db, f, X, rfl, rfl, this.1⟩, this.2⟩
        · obtain ⟨x, d, db, f, X, rfl, rfl, hN⟩ := hW.in_ (by omega)
          refine (dstartC hN.r hi op t (by omega) (by omega) hc).mono fun e w' ⟨h1, h2, h3⟩ => ?_
          have hrow : ∀ j, j < n → ∀ y ∈ thX (updF f i { f i with op := op, pl := 0, t := t } j).A, y ∈ thX (f j).A := fun j hj y hy => by
            by_cases e : j = i
            · subst e; rw [updF_same] at hy; exact hy
            · rw [updF_other _ _ _ _ e] at hy; exact hy
          have := hN.doc (X' := X) h3 (fun y hy => .inr (.inl (by simpa using hy))) h2 (hN.inv.start hi (by omega) (by omega) hc t) (by rw [EpV.E_nx]; exact hN.e) (fun y hy => .inl hy) (fun y hy => hy) (fun j hj y hy => hN.rx j hj y (hrow j hj y hy)) (fun j hj y hy => .inl (hrow j hj y hy))
          exact ⟨h1, .inr ⟨x, d, db, _, X, rfl, rfl, this.1⟩, this.2⟩
      · refine ⟨(checkE (s.wk i) op : Nat), s, fun W kD sD hW => ?_, fun W kP sP hW => ?_⟩
        · obtain ⟨x, d, db, f, X, rfl, rfl, hN⟩ := hW.in_ (by omega)
          refine (estartN hN.c i hi op t (by omega) (by omega) hc).mono fun e w' ⟨h1, h2, h3⟩ => ?_
          have := hN.prog (Y := []) h3 h2 (by simp)
          exact ⟨h1, .inr ⟨x, d, db, f, X, rfl, rfl, this.1⟩, this.2⟩
        · obtain ⟨x, d, db, f, X, rfl, rfl, hN⟩ := hW.in_ (by omega)
          exact (dstartN hN.r hi op t (by omega) (by omega) hc).mono fun e w' ⟨h1, h2⟩ => ⟨h1, h2 ▸ hW, h2 ▸ KpZ.of_below (Below.refl _ _)⟩
/-- A step's answer. -/
def RqV (q : EqV) (m : Nat) (r : Int) (A : Option Addr) (c : Nat) : Value := .tuple #[.agg #[.bool q.d, .int .i64 (q.e : Int), .int .i64 q.n, .slice A m c], .int .i64 r]
/-- The program's Step answers so. -/
def SpP (w : World) (xv dv : Value) (n kP : Nat) (s s' : EpV) (who : Int) (q : EqV) (m : Nat) (r : Int) : Prop :=
  ∀ W (Z : List Nat) kD sD, PyS w W xv dv n kP kD Z s sD → Calls Try.prog 18 #[xv, .int .i64 who] W fun e w' => ∃ A c, e = .returned (RqV q m r A c) ∧ (∃ kP', kP' ≤ kP + 1 ∧ PyS w w' xv dv n kP' kD (thX A ++ Z) s' sD) ∧ OwnC w' W.heap.size TI 1 A m c (thI q.th) ∧ KpZ Z W w'
/-- The document's Step answers so. -/
def SpD (w : World) (xv dv : Value) (n kD : Nat) (s s' : EpV) (who : Int) (q : EqV) (m : Nat) (r : Int) : Prop :=
  ∀ W (Z : List Nat) kP sP, PyS w W xv dv n kP kD Z sP s → Calls Try.prog 19 #[dv, .int .i64 who] W fun e w' => ∃ A c, e = .returned (RqV q m r A c) ∧ (∃ kD', kD' ≤ kD + 1 ∧ PyS w w' xv dv n kP kD' Z sP s') ∧ OwnC w' W.heap.size TI 1 A m c (thI q.th) ∧ KpZ Z W w'
theorem steps13 (h : PyS w wr xv dv n kP kD Z s s) (hk : kP < 2305843009213693952) (hk2 : kD < 2305843009213693952) (who : Int) : ∃ q m r s', m = q.th.length ∧ SpP w xv dv n kP s s' who q m r ∧ SpD w xv dv n kD s s' who q m r := by
  have hnil : ∀ (W : World), OwnC W W.heap.size TI 1 none 0 0 (thI ([] : List Int)) := fun W => World.ownsRow_nil _ _ _ _
  rcases hw : inB who n with _ | _
  · refine ⟨noEq, 0, 1, s, rfl, fun W Z kD sD hW => ?_, fun W Z kP sP hW => ?_⟩
    · exact (estep_who W xv who ((hW.below ((Below.refl _ _).alloc (Nat.le_refl _) _)).isW who hw)).mono fun e w' ⟨h1, h2⟩ => ⟨none, 0, h1, ⟨kP, by omega, hW.below h2⟩, World.ownsRow_nil _ _ _ _, KpZ.of_below h2⟩
    · exact (dstep_who2 W dv who ((hW.below (below_RD W)).there who hw)).mono fun e w' ⟨h1, h2⟩ => ⟨none, 0, h1, ⟨kD, by omega, hW.below h2⟩, World.ownsRow_nil _ _ _ _, KpZ.of_below h2⟩
  · obtain ⟨i, rfl, hi⟩ := inB_nat hw
    rcases hp : isEN (s.wk i).nx with _ | _
    · refine ⟨noEq, 0, 7, s, rfl, fun W Z kD sD hW => ?_, fun W Z kP sP hW => ?_⟩
      · obtain ⟨x, d, db, f, X, rfl, rfl, hN⟩ := hW.in_ (by omega)
        obtain ⟨b, bw, wb, fv, rA, rc, ring, e⟩ := hN.c.ex
        exact (estep_none e i hi hp).mono fun e w' ⟨h1, h2⟩ => ⟨none, 0, h1, ⟨kP, by omega, hW.below h2⟩, World.ownsRow_nil _ _ _ _, KpZ.of_below h2⟩
      · obtain ⟨x, d, db, f, X, rfl, rfl, hN⟩ := hW.in_ (by omega)
        exact (dstepN hN.r hi hp).mono fun e w' ⟨h1, h2⟩ => ⟨none, 0, h1, ⟨kD, by omega, hW.below h2⟩, World.ownsRow_nil _ _ _ _, KpZ.of_below h2⟩
    · obtain ⟨t, ht⟩ : ∃ t, stepE n s i = t := ⟨_, rfl⟩
      refine ⟨t.q, t.q.th.length, 0, t.s.nx i t.y, rfl, fun W Z kD sD hW => ?_, fun W Z kP sP hW => ?_⟩
      · obtain ⟨x, d, db, f, X, rfl, rfl, hN⟩ := hW.in_ (by omega)
        refine (estepC hN.c hk i hi hp t ht).mono fun e w' ⟨A, c, h1, h2, h3, h4⟩ => ?_
        have := hN.prog h4 h2 (fun y hy => (h3.ltX y hy).1)
        exact ⟨A, c, h1, ⟨_, Nat.le_refl _, .inr ⟨x, d, db, f, _, rfl, rfl, this.1⟩⟩, h3, this.2⟩
      · obtain ⟨x, d, db, f, X, rfl, rfl, hN⟩ := hW.in_ (by omega)
        have hW64 := hN.c.w64
        refine (dstepC hN.r hN.inv hN.e hk2 hW64 hi hp t ht).mono fun e w' ⟨A, c, x', h1, h2, h3, h4, h5⟩ => ?_
        have hinv := hN.inv.step hi hp
        have hE := (stepE_E hN.inv i).2
        rw [ht] at hinv hE
        have hrow : ∀ j, j < n → ∀ y ∈ thX (updF f i x' j).A, y ∈ thX (f j).A ∨ (j = i ∧ y ∈ thX x'.A ∧ W.heap.size ≤ y ∧ y < w'.heap.size) := fun j hj y hy => by
          by_cases e : j = i
          · subst e
            rw [updF_same] at hy
            rcases h5 y hy with h6 | h6
            · exact .inl h6
            · exact .inr ⟨rfl, hy, h6⟩
          · rw [updF_other _ _ _ _ e] at hy; exact .inl hy
        have := hN.doc (X' := thX x'.A ++ X) h4 (fun y hy => by
          rcases List.mem_cons.1 hy with h6 | hy
          · exact .inl h6
          · rcases List.mem_cons.1 hy with h6 | hy
            · exact .inr (.inl h6)
            · exact .inr (.inr ⟨i, hi, hy⟩)) h2 hinv (by rw [EpV.E_nx]; have := hN.e; omega) (fun y hy => by
          rcases List.mem_append.1 hy with h6 | h6
          · rcases h5 y h6 with h7 | h7
            · exact .inl (hN.rx i hi y h7)
            · exact .inr h7
          · exact .inl h6) (fun y hy => List.mem_append_right _ hy) (fun j hj y hy => by
          rcases hrow j hj y hy with h6 | ⟨_, h6, _⟩
          · exact List.mem_append_right _ (hN.rx j hj y h6)
          · exact List.mem_append_left _ h6) (fun j hj y hy => by
          rcases hrow j hj y hy with h6 | ⟨_, _, h6, _⟩
          · exact .inl h6
          · exact .inr h6)
        exact ⟨A, c, h1, ⟨_, Nat.le_refl _, .inr ⟨x, d, db, _, _, rfl, rfl, this.1⟩⟩, h3, this.2⟩
end
end Go.Proofs.Ytpjgpiiibgogeaa


/- EpochPlays: what is asked, of both sides; lists that are written into. -/
namespace Go.Proofs.Ytpjgpiiibgogeaa
open Go.RowKit
set_option maxRecDepth 100000
set_option linter.unusedVariables false

/-- A list whose numbers may be written. -/
def Rm (w : World) (A : Option Addr) (m : Nat) : Prop := m = 0 ∨ ∃ g, A = some ⟨g, 0, none⟩ ∧ g < w.heap.size ∧ ∀ j, j < m → (∃ v, w.cell? ⟨g, j, none⟩ = some v) ∧ w.frozen? ⟨g, j, none⟩ = false
section
variable {w wr w' : World} {x d db n kP kD m c B : Nat} {X Z S : List Nat} {sP sD s : EpV} {f : Nat → DkV} {xv dv : Value} {A : Option Addr}
theorem OwnC.rm {l : List Int} (h : OwnC w B TI 1 A m c (thI l)) : Rm w A m := by
  rcases Nat.eq_zero_or_pos m with hm | hm
  · exact .inl hm
  · obtain ⟨g, cap, hv, h1, h2⟩ := World.ownsRow.form h hm
    obtain ⟨rfl, -, rfl⟩ : A = some ⟨g, 0, none⟩ ∧ m = m ∧ c = cap := by simpa using hv
    have ha := h.arg.len
    refine .inr ⟨g, rfl, h2, fun j hj => ⟨?_, World.ownsRow.frozenAt h j⟩⟩
    have := World.ownsRow.cellAt h j (by omega)
    exact ⟨_, this.trans (List.getElem?_eq_getElem (by omega))⟩
theorem Rm.off (h : Rm w A m) (hf : Off S w w') (hS : ∀ y ∈ thX A, y ∉ S) : Rm w' A m := by
  rcases h with h | ⟨g, rfl, h2, h3⟩
  · exact .inl h
  · have hg : g ∉ S := hS g (by simp [thX])
    exact .inr ⟨g, rfl, Nat.lt_of_lt_of_le h2 hf.size, fun j hj => ⟨⟨_, (hf.cell (p := ⟨g, j, none⟩) h2 hg).trans (h3 j hj).1.choose_spec⟩, (hf.frozen (p := ⟨g, j, none⟩) h2 hg).trans (h3 j hj).2⟩⟩
theorem Rm.below (h : Rm w A m) (hb : Below w.heap.size w w') : Rm w' A m := h.off (S := []) (Off.of_below hb) (by simp)
theorem Rm.set {g : Nat} (h : Rm w (some ⟨g, 0, none⟩) m) (j : Nat) (v : Value) : Rm (w.setCell ⟨g, j, none⟩ v) (some ⟨g, 0, none⟩) m := by
  rcases h with h | ⟨g', e, h2, h3⟩
  · exact .inl h
  · obtain rfl : g = g' := by simpa using e
    refine .inr ⟨g, rfl, by simpa using h2, fun i hi => ⟨?_, by simpa using (h3 i hi).2⟩⟩
    obtain ⟨u, hu⟩ := (h3 i hi).1
    by_cases e : i = j
    · subst e; exact ⟨v, World.cell?_setCell_same _ _ _ hu⟩
    · exact ⟨u, (World.cell?_setCell_other _ _ _ _ (by simp <;> omega)).trans hu⟩
/-- What is asked of both, and answered alike. -/
structure Ask13 (w : World) (xv dv : Value) (n kP kD : Nat) (Z : List Nat) (s : EpV) (who : Int) (pb pn : Bool) (E m : Nat) (l : List Int) : Prop where
  pe : ∀ W, PyS w W xv dv n kP kD Z s s → Calls Try.prog 22 #[xv, .int .i64 who] W fun e w' => e = .returned (.bool pb) ∧ W = w'
  pd : ∀ W, PyS w W xv dv n kP kD Z s s → Calls Try.prog 23 #[dv, .int .i64 who] W fun e w' => e = .returned (.bool pb) ∧ W = w'
  ie : ∀ W, PyS w W xv dv n kP kD Z s s → Calls Try.prog 24 #[xv, .int .i64 who] W fun e w' => e = .returned (.bool pn) ∧ W = w'
  id : ∀ W, PyS w W xv dv n kP kD Z s s → Calls Try.prog 25 #[dv, .int .i64 who] W fun e w' => e = .returned (.bool pn) ∧ W = w'
  ee : ∀ W, PyS w W xv dv n kP kD Z s s → Calls Try.prog 26 #[xv] W fun e w' => e = .returned (.int .i64 (E : Int)) ∧ W = w'
  ed : ∀ W, PyS w W xv dv n kP kD Z s s → Calls Try.prog 27 #[dv] W fun e w' => e = .returned (.int .i64 (E : Int)) ∧ W = w'
  he : ∀ W, PyS w W xv dv n kP kD Z s s → Calls Try.prog 21 #[xv, .int .i64 who] W (HhE W m l)
  hd : ∀ W, PyS w W xv dv n kP kD Z s s → Calls Try.prog 29 #[dv, .int .i64 who] W (HhE W m l)
theorem hh_nil (W : World) {e : Ending} {w' : World} (h : e = .returned (.slice none 0 0) ∧ W = w') : HhE W 0 [] e w' := by
  obtain ⟨rfl, rfl⟩ := h
  exact ⟨none, 0, rfl, World.ownsRow_nil _ _ _ _, Below.refl _ _⟩
theorem asks13 (h : PyS w wr xv dv n kP kD Z s s) (hk : kP < 2305843009213693952) (who : Int) : ∃ pb pn E m l, Ask13 w xv dv n kP kD Z s who pb pn E m l := by
  have hE : ∀ W, PyS w W xv dv n kP kD Z s s → Calls Try.prog 26 #[xv] W fun e w' => e = .returned (.int .i64 (s.E : Int)) ∧ W = w' := fun W hW => by
    clear h
    rcases hW with ⟨rfl, _, _, h4, _⟩ | ⟨x, d, db, f, X, rfl, _, hN⟩
    · rw [h4]; exact epoch_nil W
    · exact eepochC hN.c hk
  have hD : ∀ W, PyS w W xv dv n kP kD Z s s → Calls Try.prog 27 #[dv] W fun e w' => e = .returned (.int .i64 (s.E : Int)) ∧ W = w' := fun W hW => by
    clear h
    rcases hW with ⟨_, rfl, _, h4, _⟩ | ⟨x, d, db, f, X, _, rfl, hN⟩
    · rw [h4]; exact depoch_nil W
    · exact depoch_any hN.r.dr
  rcases hw : inB who n with _ | _
  · exact ⟨false, false, s.E, 0, [], ⟨fun W hW => epend_no W xv who (Lib.hid (hW.isW who hw)), fun W hW => dpend_no W dv who (Lib.hid (hW.there who hw)), fun W hW => epin_no W xv who (Lib.hid (hW.isW who hw)), fun W hW => dpin_no W dv who (Lib.hid (hW.there who hw)), hE, hD,
      fun W hW => (eheld_no W xv who (Lib.hid (hW.isW who hw))).mono fun e w' h => hh_nil W h, fun W hW => (dheld_no W dv who (Lib.hid (hW.there who hw))).mono fun e w' h => hh_nil W h⟩⟩
  · obtain ⟨i, rfl, hi⟩ := inB_nat hw
    refine ⟨isEN (s.wk i).nx, (s.wk i).pin != 0, s.E, (s.wk i).gs.length, (s.wk i).gs.map (·.1), ⟨fun W hW => ?_, fun W hW => ?_, fun W hW => ?_, fun W hW => ?_, hE, hD, fun W hW => ?_, fun W hW => ?_⟩⟩ <;>
      obtain ⟨x, d, db, f, X, rfl, rfl, hN⟩ := hW.in_ (by omega)
    · exact ependC hN.c i hi
    · exact dpendC hN.r hi
    · exact epinC hN.c i hi _ rfl
    · exact dpinC hN.r hi _ rfl
    · exact eheldL hN.c i hi _ rfl
    · exact dheldC hN.r hN.inv hi _ rfl
end
end Go.Proofs.Ytpjgpiiibgogeaa


/- EpochPlays: New of both. -/
namespace Go.Proofs.Ytpjgpiiibgogeaa
open Go.RowKit
set_option maxRecDepth 100000
set_option linter.unusedVariables false

theorem eqlX (x : Nat) (W : World) : (binOp .eql 24 (PV x) (.pointer none)).run Try.prog W = .ok (.bool false) W := rfl
theorem eqlX0 (W : World) : (binOp .eql 24 (.pointer none) (.pointer none)).run Try.prog W = .ok (.bool true) W := rfl
theorem eqlD (x : Nat) (W : World) : (binOp .eql 28 (PV x) (.pointer none)).run Try.prog W = .ok (.bool false) W := rfl
theorem eqlD0 (W : World) : (binOp .eql 28 (.pointer none) (.pointer none)).run Try.prog W = .ok (.bool true) W := rfl
/-- What the document's New does then. -/
def NwD (w : World) (workers : Int) (b : Bool) (c : Int) (n : Nat) (xv : Value) (w2 : World) : Prop :=
  Calls Try.prog 15 #[.int .i64 workers] w2 fun e w3 => ∃ dv, e = .returned (.tuple #[dv, .int .i64 c]) ∧ (∀ W, (binOp .eql 28 dv (.pointer none)).run Try.prog W = .ok (.bool b) W) ∧ PyS w w3 xv dv n 0 0 [] (initE n) (initE n)
theorem initE_wk (n i : Nat) : (initE n).wk i = noWk := rfl
theorem news13 (w w1 : World) (hB : Below w.heap.size w w1) (workers : Int) : ∃ b c n, Calls Try.prog 14 #[.int .i64 workers] w1 fun e w2 => ∃ xv, e = .returned (.tuple #[xv, .int .i64 c]) ∧ (∀ W, (binOp .eql 24 xv (.pointer none)).run Try.prog W = .ok (.bool b) W) ∧ NwD w workers b c n xv w2 := by
  by_cases h : workers < 1 ∨ 64 < workers
  · refine ⟨true, 1, 0, (enew_bad w1 workers h).mono fun e w2 ⟨h1, h2⟩ => ⟨_, h1, eqlX0, ?_⟩⟩
    subst h2
    refine (dnew_bad w1 workers h).mono fun e w3 ⟨h1, h2⟩ => ⟨_, h1, eqlD0, ?_⟩
    subst h2
    exact .inl ⟨rfl, rfl, rfl, initE_E 0, initE_E 0, hB, by simp⟩
  · obtain ⟨n, rfl, h1, h2⟩ : ∃ n : Nat, workers = (n : Int) ∧ 1 ≤ n ∧ n ≤ 64 := ⟨workers.toNat, by omega, by omega, by omega⟩
    refine ⟨false, 0, n, (enewC w w1 hB n h1 h2).mono fun e w2 ⟨x, h3, h4, _⟩ => ⟨_, h3, eqlX x, ?_⟩⟩
    refine (dnew_ok w2 n h1 h2).mono fun e w3 ⟨d, db, h5, h6, h7, h8, h9⟩ => ⟨_, h5, eqlD d, ?_⟩
    have hs := h4.bel.size
    have ld := h6.hd.lt
    have lb := h6.wk.lt
    refine .inr ⟨x, d, db, (fun _ => noDk), [d, db], rfl, rfl, ⟨h4.reX h7 (fun y hy => ?_), ⟨by rw [initE_E]; exact h6, fun i hi => ?_, fun i hi => World.ownsRow_nil _ _ _ _, fun i hi y hy => by simp [thX] at hy, fun i j _ _ _ y hy => by simp [thX] at hy, Nat.le_trans hs h7.size⟩, InvE.init n, by rw [initE_E]; omega, by simp, fun i hi y hy => by simp [thX] at hy, ⟨by omega, by omega⟩, by simp⟩⟩
    · simp only [List.mem_cons, List.not_mem_nil, or_false] at hy
      rcases hy with rfl | rfl
      · exact .inr ⟨h8, ld⟩
      · exact .inr ⟨h9, lb⟩
    · rw [initE_wk, initE_P]
      exact ⟨rfl, rfl, rfl, rfl, trivial, Nat.le_refl _⟩
end Go.Proofs.Ytpjgpiiibgogeaa


/- The law EpochPlays: its walk. -/
namespace Go.Proofs.Ytpjgpiiibgogeaa
open Go.RowKit
set_option maxRecDepth 100000
set_option linter.unusedVariables false

theorem PyS.ptr {w W : World} {xv dv : Value} {n kP kD : Nat} {Z : List Nat} {sP sD : EpV} (h : PyS w W xv dv n kP kD Z sP sD) : ∃ xp dp, xv = .pointer xp ∧ dv = .pointer dp := by
  rcases h with ⟨h1, h2, _⟩ | ⟨x, d, db, f, X, h1, h2, _⟩
  · exact ⟨_, _, h1, h2⟩
  · exact ⟨_, _, h1, h2⟩
abbrev PkO (who : Int) (op : Nat) (t : Int) : Obj := .cells #[.int .i64 who, .int .u8 (op : Int), .int .i64 t] 32
structure PyB (w W : World) (xv dv : Value) (n kP kD : Nat) (sP sD : EpV) (P : Nat) (who : Int) (op : Nat) (t : Int) : Prop where
  s : PyS w W xv dv n kP kD [P] sP sD
  b : BlkL W P [.int .i64 who, .int .u8 (op : Int), .int .i64 t]
def PyI (w : World) (xv dv : Value) (n0 n : Nat) (iv : Value) (wr : World) : Prop :=
  ∃ i k kD s, i ≤ n ∧ i ≤ 400 ∧ iv = .int .i64 ((i : Nat) : Int) ∧ k ≤ i ∧ kD ≤ i ∧ PyS w wr xv dv n0 k kD [] s s
set_option maxHeartbeats 12800000 in
theorem epochPlays_walk (workers : Int) (A : Option Addr) (n d : Nat) (l0 : List EpkV) (w : World) (h : ArgC w w.heap.size 3 A n d (FE l0)) (hd : d ≤ 5864062014805) (hok : okEpks l0) :
    Calls Try.prog 3 #[.int .i64 workers, .slice A n d] w (ValEnd w (.bool true)) := by
  have hle := h.le
  have HAG := Lib.hid h
  have HOK := Lib.hid hok
  clear h hok
  go_enter Try.func3, Try.ntmps3
  go_wp2_with fail
  with_reducible refine (awake13_any _).mono ?_
  rintro e w1 ⟨rfl, hB⟩
  obtain ⟨b, c, n0, hN⟩ := news13 w w1 hB workers
  have HN := Lib.hid hN
  have hcc : (c != c) = false := by simp
  have hbb0 : (b != b) = false := by simp
  clear hB hN
  go_wp2_with fail
  with_reducible refine HN.out.mono ?_
  rintro e w2 ⟨xv, rfl, hqx, hD⟩
  unfold NwD at hD
  have HD := Lib.hid hD
  clear HN hD
  go_wp2_with fail
  with_reducible refine HD.out.mono ?_
  rintro e w3 ⟨dv, rfl, hqd, hs⟩
  obtain ⟨xp, dp, rfl, rfl⟩ := hs.ptr
  have S0 := Lib.hid hs
  clear HD hs
  go_wp2
  clear hqx hqd hbb0 hcc
  go_loopw [42] (fun iv wr => PyI w (.pointer xp) (.pointer dp) n0 n iv wr) (fun iv _ => n - (intOf iv).toNat)
  case atStart => exact ⟨0, 0, 0, _, Nat.zero_le _, by omega, rfl, Nat.le_refl _, Nat.le_refl _, S0.out⟩
  case round =>
    obtain ⟨i, k, kD, s, hi, hi2, rfl, hk, hkD, hs⟩ := hrel
    clear S0
    have hbs := hs.bel.size
    rcases Nat.lt_or_ge i n with hin | hin
    · obtain ⟨bb, off, rfl, hbb, hcell⟩ := epk_at (HAG.out.below hs.bel) hin
      have q0 := hcell 0 (by omega)
      have q1 := hcell 1 (by omega)
      have q2 := hcell 2 (by omega)
      have hpok := okEpks_at HOK.out i
      generalize l0.getD i noEpk = p at q0 q1 q2 hpok
      obtain ⟨who, op, thing⟩ := p
      replace q0 : wr.cell? ⟨bb, off + i * 3, none⟩ = some (.int .i64 who) := q0
      replace q1 : wr.cell? ⟨bb, off + i * 3 + 1, none⟩ = some (.int .u8 (op : Int)) := q1
      replace q2 : wr.cell? ⟨bb, off + i * 3 + 2, none⟩ = some (.int .i64 thing) := q2
      have j0 : (0 : Int) ≤ (i : Int) := by omega
      have j1 : (i : Int) < (n : Int) := by omega
      have hbb2 : bb < wr.heap.size := by omega
      clear hcell hpok
      have S1 : Hid (PyB w (wr.alloc (PkO who op thing)) (.pointer xp) (.pointer dp) n0 k kD s s wr.heap.size who op thing) := Lib.hid ⟨hs.newZ _, BlkL.new wr _ _⟩
      clear hs
      rcases Nat.lt_or_ge i 400 with h3 | h3
      · have h3' : ¬ (400 : Int) ≤ (i : Int) := by omega
        rcases Nat.eq_zero_or_pos op with hop0 | hop0
        · have hopb : ((op : Int) != 0) = false := by subst hop0; rfl
          clear hop0
          obtain ⟨q, m, r, s', hm, hSP, hSD⟩ := steps13 S1.out.s (by omega) (by omega) who
          obtain ⟨qd, qe, qn, qth⟩ := q
          unfold SpP RqV at hSP
          unfold SpD RqV at hSD
          simp only at hSP hSD hm
          have hrr : (r != r) = false := by simp
          have HST := Lib.hid (hSP _ _ _ _ S1.out.s)
          have HSD := Lib.hid hSD
          have b0 := S1.out.b.cell 0 _ rfl
          have bl := S1.out.b.lt
          clear hSP hSD hm
          go_wp2_with fail
          generalize wr.alloc (PkO who op thing) = w4 at *
          generalize wr.heap.size = P at *
          with_reducible refine HST.out.mono ?_
          rintro e w5 ⟨A5, c5, rfl, ⟨k5, hk5, h5⟩, o5, z5⟩
          have kp5 := (z5.blk S1.out.b (by simp)).alloc (.cells #[.bool qd, .int .i64 (qe : Int), .int .i64 qn, .slice A5 m c5] 37)
          have kr5 := BlkL.new w5 [.bool qd, .int .i64 (qe : Int), .int .i64 qn, .slice A5 m c5] 37
          have hA5 := o5.ltX
          have hm5 : m ≤ maxLen := Nat.le_trans o5.arg.le o5.arg.cap
          unfold maxLen at hm5
          have hba : Below w5.heap.size w5 (w5.alloc (.cells #[.bool qd, .int .i64 (qe : Int), .int .i64 qn, .slice A5 m c5] 37)) := (Below.refl _ _).alloc (Nat.le_refl _) _
          have hAP : ∀ y ∈ thX A5, y ≠ P ∧ y ≠ w5.heap.size := fun y hy => by have := hA5 y hy; omega
          have o6 := o5.below hba
          have hDS := HSD.out _ _ _ _ (h5.newZ (.cells #[.bool qd, .int .i64 (qe : Int), .int .i64 qn, .slice A5 m c5] 37))
          have b5 := kp5.cell 0 _ rfl
          have bl5 := kp5.lt
          have HDS := Lib.hid hDS
          have K5 := Lib.hid (And.intro kp5 (And.intro kr5 o6))
          have HAP := Lib.hid hAP
          clear h5 o5 z5 kp5 kr5 hA5 hba o6 hDS HST HSD b0 bl S1 hAP
          go_wp2_with fail
          with_reducible refine HDS.out.mono ?_
          rintro e w7 ⟨A7, c7, rfl, ⟨k7, hk7, h7⟩, o7, z7⟩
          have hbz : Below w7.heap.size w7 (w7.alloc (.cells #[.bool qd, .int .i64 (qe : Int), .int .i64 qn, .slice A7 m c7] 41)) := (Below.refl _ _).alloc (Nat.le_refl _) _
          have kp8 := (z7.blk K5.out.1 (by simp)).alloc (.cells #[.bool qd, .int .i64 (qe : Int), .int .i64 qn, .slice A7 m c7] 41)
          have kr8 := (z7.blk K5.out.2.1 (by simp)).alloc (.cells #[.bool qd, .int .i64 (qe : Int), .int .i64 qn, .slice A7 m c7] 41)
          have kd8 := BlkL.new w7 [.bool qd, .int .i64 (qe : Int), .int .i64 qn, .slice A7 m c7] 41
          have o8 := (z7.own K5.out.2.2 (fun y hy => List.mem_cons_of_mem _ (List.mem_append_left _ hy))).below hbz
          have HSA := Lib.hid (same13_any _ qd (qe : Int) qn _ _ m c5 c7 A5 A7 qth (argI_of o8.arg) (argI_of (o7.below hbz).arg) (Nat.le_refl _) (Nat.le_refl _))
          have r0 := kr8.cell 0 _ rfl
          have r1 := kr8.cell 1 _ rfl
          have r2 := kr8.cell 2 _ rfl
          have r3 := kr8.cell 3 _ rfl
          have rl := kr8.lt
          have t0 := kd8.cell 0 _ rfl
          have t1 := kd8.cell 1 _ rfl
          have t2 := kd8.cell 2 _ rfl
          have t3 := kd8.cell 3 _ rfl
          have tl := kd8.lt
          have K8 := Lib.hid (And.intro kp8 (And.intro kr8 (And.intro o8.rm (h7.below hbz))))
          clear kp8 kr8 kd8 o8 o7 z7 h7 hbz b5 bl5 K5 HDS
          generalize w5.heap.size = R at *
          go_wp2_with fail
          with_reducible refine HSA.out.mono ?_
          rintro e w9 ⟨rfl, hb9⟩
          have K9 := Lib.hid (And.intro (K8.out.1.below hb9) (And.intro (K8.out.2.1.below hb9) (And.intro (K8.out.2.2.1.below hb9) (K8.out.2.2.2.below hb9))))
          have r3' := K9.out.2.1.cell 3 _ rfl
          have rl' := K9.out.2.1.lt
          clear hb9 K8 HSA r0 r1 r2 r3 rl t0 t1 t2 t3 tl
          go_wp2
          clear r3' rl'
          go_loopw [95] (fun jv wl => ∃ j : Nat, j ≤ m ∧ jv = .int .i64 ((j : Nat) : Int) ∧ PyS w wl (.pointer xp) (.pointer dp) n0 k5 k7 (R :: (thX A5 ++ [P])) s' s' ∧ BlkL wl R [.bool qd, .int .i64 (qe : Int), .int .i64 qn, .slice A5 m c5] ∧ BlkL wl P [.int .i64 who, .int .u8 (op : Int), .int .i64 thing] ∧ Rm wl A5 m) (fun jv _ => m - (intOf jv).toNat)
          case atStart => exact ⟨0, Nat.zero_le _, rfl, K9.out.2.2.2, K9.out.2.1, K9.out.1, K9.out.2.2.1⟩
          case round =>
            obtain ⟨j, hj, rfl, hst, hkr, hkp, hrm⟩ := hrel
            clear K9
            have z3 := hkr.cell 3 _ rfl
            have zl := hkr.lt
            rcases Nat.lt_or_ge j m with hjl | hjl
            · obtain ⟨g, rfl, hg, hrc⟩ := hrm.resolve_left (by omega)
              obtain ⟨⟨v, e0⟩, ez⟩ := hrc j hjl
              have k0 : (0 : Int) ≤ (j : Int) := by omega
              have k1 : (j : Int) < (m : Int) := by omega
              have hgP := HAP.out g (by simp [thX])
              have hof := (Off.refl [g] wr).setCell (p := ⟨g, j, none⟩) (by simp) (.int .i64 99)
              have ST2 := Lib.hid (And.intro (hst.put hof (by simp [thX])) (And.intro (hkr.off hof (by simp; omega)) (And.intro (hkp.off hof (by simp; omega)) (Rm.set hrm j (.int .i64 99)))))
              clear hst hrm hrc hkr hkp hof
              go_wp2
              go_roundw
              case rel => exact ⟨j + 1, by omega, by go_num, ST2.out.1, ST2.out.2.1, ST2.out.2.2.1, ST2.out.2.2.2⟩
              case measure => simp [intOf]; omega
            · obtain rfl : j = m := by omega
              have k1 : ¬ (j : Int) < (j : Int) := by omega
              have SB : Hid (PyB w _ (.pointer xp) (.pointer dp) n0 k5 k7 s' s' P who op thing) := Lib.hid ⟨hst.less (by simp), hkp⟩
              clear hst hrm hkr hkp
              obtain ⟨pb, pn, E, m2, l2, hA⟩ := asks13 SB.out.s (by omega) who
              have HH := Lib.hid (hA.he _ SB.out.s)
              have HA := Lib.hid hA
              have p0 := SB.out.b.cell 0 _ rfl
              have hpl := SB.out.b.lt
              have hpp : (pb != pb) = false := by simp
              have hnn : (pn != pn) = false := by simp
              have hee : ((E : Int) != (E : Int)) = false := by simp
              clear hA
              unfold HhE at HH
              go_wp2_with fail
              with_reducible refine HH.out.mono ?_
              rintro e w10 ⟨Ah, ch, rfl, ho, hb⟩
              have st10 := SB.out.s.addZ hb (fun y hy => ho.ltX y hy)
              have sp10 := SB.out.s.below hb
              have kp10 := SB.out.b.below hb
              have hd0 : Below w10.heap.size w10 w10.drew := (Below.refl _ _).drew
              have hpl10 := kp10.lt
              replace p0 := kp10.cell 0 _ rfl
              have HKF : Hid (∀ W, Below w10.heap.size w10 W → W.cell? ⟨P, 0, none⟩ = some (.int .i64 who)) := Lib.hid (fun W hb => (hb.cell (p := ⟨P, 0, none⟩) hpl10).trans p0)
              have HPE : Hid (∀ W, Below w10.heap.size w10 W → Calls Try.prog 22 #[.pointer xp, .int .i64 who] W fun e w' => e = .returned (.bool pb) ∧ Below w10.heap.size w10 w') := Lib.hid (fun W hb => (HA.out.pe W (sp10.below hb)).mono fun e w' ⟨h1, h2⟩ => ⟨h1, h2 ▸ hb⟩)
              have HPD : Hid (∀ W, Below w10.heap.size w10 W → Calls Try.prog 23 #[.pointer dp, .int .i64 who] W fun e w' => e = .returned (.bool pb) ∧ Below w10.heap.size w10 w') := Lib.hid (fun W hb => (HA.out.pd W (sp10.below hb)).mono fun e w' ⟨h1, h2⟩ => ⟨h1, h2 ▸ hb⟩)
              have HIE : Hid (∀ W, Below w10.heap.size w10 W → Calls Try.prog 24 #[.pointer xp, .int .i64 who] W fun e w' => e = .returned (.bool pn) ∧ Below w10.heap.size w10 w') := Lib.hid (fun W hb => (HA.out.ie W (sp10.below hb)).mono fun e w' ⟨h1, h2⟩ => ⟨h1, h2 ▸ hb⟩)
              have HID : Hid (∀ W, Below w10.heap.size w10 W → Calls Try.prog 25 #[.pointer dp, .int .i64 who] W fun e w' => e = .returned (.bool pn) ∧ Below w10.heap.size w10 w') := Lib.hid (fun W hb => (HA.out.id W (sp10.below hb)).mono fun e w' ⟨h1, h2⟩ => ⟨h1, h2 ▸ hb⟩)
              have HEE : Hid (∀ W, Below w10.heap.size w10 W → Calls Try.prog 26 #[.pointer xp] W fun e w' => e = .returned (.int .i64 (E : Int)) ∧ Below w10.heap.size w10 w') := Lib.hid (fun W hb => (HA.out.ee W (sp10.below hb)).mono fun e w' ⟨h1, h2⟩ => ⟨h1, h2 ▸ hb⟩)
              have HED : Hid (∀ W, Below w10.heap.size w10 W → Calls Try.prog 27 #[.pointer dp] W fun e w' => e = .returned (.int .i64 (E : Int)) ∧ Below w10.heap.size w10 w') := Lib.hid (fun W hb => (HA.out.ed W (sp10.below hb)).mono fun e w' ⟨h1, h2⟩ => ⟨h1, h2 ▸ hb⟩)
              have HHD : Hid (∀ W, Below w10.heap.size w10 W → Calls Try.prog 29 #[.pointer dp, .int .i64 who] W fun e w' => ∃ A' c', e = .returned (.slice A' m2 c') ∧ OwnC w' w10.heap.size TI 1 A' m2 c' (thI l2) ∧ Below w10.heap.size w10 w') := Lib.hid (fun W hb => (HA.out.hd W (sp10.below hb)).mono fun e w' ⟨A', c', h1, h2, h3⟩ => ⟨A', c', h1, h2.lower hb.size, hb.trans (h3.mono hb.size)⟩)
              have HSM : Hid (∀ W A' c', Below w10.heap.size w10 W → OwnC W w10.heap.size TI 1 A' m2 c' (thI l2) → Calls Try.prog 28 #[.slice Ah m2 ch, .slice A' m2 c'] W fun e w' => e = .returned (.bool true) ∧ Below w10.heap.size w10 w') := Lib.hid (fun W A' c' hb hv => (sameInts_any W _ _ Ah A' m2 ch m2 c' l2 l2 true (decide_eq_true rfl) (argI_of (ho.below hb).arg) (argI_of hv.arg)).mono fun e w' ⟨h1, t, h2⟩ => ⟨h1, h2 ▸ below_drewN hb t⟩)
              have RM10 := Lib.hid ho.rm
              have hm2 : m2 ≤ maxLen := Nat.le_trans ho.arg.le ho.arg.cap
              unfold maxLen at hm2
              have ST10 := Lib.hid st10
              clear ho hb st10 sp10 kp10 HH HA
              go_wp2_with fail
              go_region_held3 (fun w' => w'.cell? ⟨P, 0, none⟩ = some (.int .i64 who))
                (first | (with_reducible exact HKF.out _ (by with_reducible assumption)) | exact HKF.out _ hd0)
                (first
                | ((with_reducible refine (HPE.out _ (by with_reducible assumption)).mono ?_); rintro e w5 ⟨rfl, hb5⟩)
                | ((with_reducible refine (HPD.out _ (by with_reducible assumption)).mono ?_); rintro e w5 ⟨rfl, hb5⟩)
                | ((with_reducible refine (HIE.out _ (by with_reducible assumption)).mono ?_); rintro e w5 ⟨rfl, hb5⟩)
                | ((with_reducible refine (HID.out _ (by with_reducible assumption)).mono ?_); rintro e w5 ⟨rfl, hb5⟩)
                | ((with_reducible refine (HEE.out _ (by with_reducible assumption)).mono ?_); rintro e w5 ⟨rfl, hb5⟩)
                | ((with_reducible refine (HED.out _ (by with_reducible assumption)).mono ?_); rintro e w5 ⟨rfl, hb5⟩)
                | ((with_reducible refine (HHD.out _ (by with_reducible assumption)).mono ?_); rintro e w5 ⟨A', c', rfl, hv5, hb5⟩)
                | ((with_reducible refine (HSM.out _ _ _ (by with_reducible assumption) (by with_reducible assumption)).mono ?_); rintro e w12 ⟨rfl, hb12⟩))
              all_goals
                have ST := Lib.hid (ST10.out.below hb12)
                have RM := Lib.hid (RM10.out.below hb12)
                clear hb12 HKF HPE HPD HIE HID HEE HED HHD HSM hd0 p0 ST10 RM10
                go_wp2
                go_loopw [145] (fun jv wl => ∃ j : Nat, j ≤ m2 ∧ jv = .int .i64 ((j : Nat) : Int) ∧ PyS w wl (.pointer xp) (.pointer dp) n0 k5 k7 (thX Ah ++ [P]) s' s' ∧ Rm wl Ah m2) (fun jv _ => m2 - (intOf jv).toNat)
                case atStart => exact ⟨0, Nat.zero_le _, rfl, ST.out, RM.out⟩
                case round =>
                  obtain ⟨j, hj, rfl, hst, hrm⟩ := hrel
                  clear ST RM
                  rcases Nat.lt_or_ge j m2 with hjl | hjl
                  · obtain ⟨g, rfl, hg, hrc⟩ := hrm.resolve_left (by omega)
                    obtain ⟨⟨v, e0⟩, ez⟩ := hrc j hjl
                    have k0 : (0 : Int) ≤ (j : Int) := by omega
                    have k1 : (j : Int) < (m2 : Int) := by omega
                    have ST2 := Lib.hid (hst.put ((Off.refl [g] _).setCell (p := ⟨g, j, none⟩) (by simp) (.int .i64 98)) (by simp [thX]))
                    have RM2 := Lib.hid (Rm.set hrm j (.int .i64 98))
                    clear hst hrm hrc
                    go_wp2
                    go_roundw
                    case rel => exact ⟨j + 1, by omega, by go_num, ST2.out, RM2.out⟩
                    case measure => simp [intOf]; omega
                  · obtain rfl : j = m2 := by omega
                    have k1 : ¬ (j : Int) < (j : Int) := by omega
                    have ST3 := Lib.hid (hst.less (Z' := []) (by simp))
                    clear hst hrm
                    go_wp2
                    go_roundw
                    case rel => exact ⟨i + 1, k5, k7, s', by omega, by omega, by go_num, by omega, by omega, ST3.out⟩
                    case measure => simp [intOf]; omega
        · have hopb : ((op : Int) != 0) = true := by simp; omega
          obtain ⟨r, s', hSP, hSD⟩ := starts13 S1.out.s who op thing
          have hrr : (r != r) = false := by simp
          go_wp2_with fail
          generalize wr.alloc (PkO who op thing) = w4 at *
          generalize wr.heap.size = P at *
          have HSP : Hid (∀ W, PyB w W (.pointer xp) (.pointer dp) n0 k kD s s P who op thing → Calls Try.prog 16 #[.pointer xp, .int .i64 who, .int .u8 (op : Int), .int .i64 thing] W fun e w' => e = .returned (.int .i64 r) ∧ PyB w w' (.pointer xp) (.pointer dp) n0 k kD s' s P who op thing) := Lib.hid (fun W hW => (hSP W kD s hW.s).mono fun e w' ⟨h1, h2, h3⟩ => ⟨h1, h2, h3.blk hW.b (by simp)⟩)
          have HSD : Hid (∀ W, PyB w W (.pointer xp) (.pointer dp) n0 k kD s' s P who op thing → Calls Try.prog 17 #[.pointer dp, .int .i64 who, .int .u8 (op : Int), .int .i64 thing] W fun e w' => e = .returned (.int .i64 r) ∧ PyB w w' (.pointer xp) (.pointer dp) n0 k kD s' s' P who op thing) := Lib.hid (fun W hW => (hSD W k s' hW.s).mono fun e w' ⟨h1, h2, h3⟩ => ⟨h1, h2, h3.blk hW.b (by simp)⟩)
          have HKA : Hid (∀ W sP sD, PyB w W (.pointer xp) (.pointer dp) n0 k kD sP sD P who op thing → (W.cell? ⟨P, 0, none⟩ = some (.int .i64 who) ∧ W.cell? ⟨P, 1, none⟩ = some (.int .u8 (op : Int)) ∧ W.cell? ⟨P, 2, none⟩ = some (.int .i64 thing))) := Lib.hid (fun W sP sD hW => ⟨hW.b.cell 0 _ rfl, hW.b.cell 1 _ rfl, hW.b.cell 2 _ rfl⟩)
          have hS4 := S1.out
          have hS4d : PyB w w4.drew (.pointer xp) (.pointer dp) n0 k kD s s P who op thing := ⟨hS4.s.below (Below.refl _ _).drew, hS4.b.drew⟩
          have p0 := hS4.b.cell 0 _ rfl
          have p1 := hS4.b.cell 1 _ rfl
          have p2 := hS4.b.cell 2 _ rfl
          clear hSP hSD
          go_region_held3 (fun w' => w'.cell? ⟨P, 0, none⟩ = some (.int .i64 who) ∧ w'.cell? ⟨P, 1, none⟩ = some (.int .u8 (op : Int)) ∧ w'.cell? ⟨P, 2, none⟩ = some (.int .i64 thing))
            (first | (with_reducible exact HKA.out _ _ _ (by with_reducible assumption)) | exact HKA.out _ _ _ hS4d)
            (first
            | ((with_reducible refine (HSP.out _ (by with_reducible assumption)).mono ?_); rintro e w5 ⟨rfl, hb5⟩)
            | ((with_reducible refine (HSD.out _ (by with_reducible assumption)).mono ?_); rintro e w6 ⟨rfl, hb6⟩))
          all_goals
            have SB := Lib.hid hb6
            clear hb5 hb6 HSP HSD HKA p0 p1 p2 hS4 hS4d S1
            obtain ⟨pb, pn, E, m2, l2, hA⟩ := asks13 SB.out.s (by omega) who
            have HH := Lib.hid (hA.he _ SB.out.s)
            have HA := Lib.hid hA
            have p0 := SB.out.b.cell 0 _ rfl
            have hpl := SB.out.b.lt
            have hpp : (pb != pb) = false := by simp
            have hnn : (pn != pn) = false := by simp
            have hee : ((E : Int) != (E : Int)) = false := by simp
            clear hA
            unfold HhE at HH
            go_wp2_with fail
            with_reducible refine HH.out.mono ?_
            rintro e w10 ⟨Ah, ch, rfl, ho, hb⟩
            have st10 := SB.out.s.addZ hb (fun y hy => ho.ltX y hy)
            have sp10 := SB.out.s.below hb
            have kp10 := SB.out.b.below hb
            have hd0 : Below w10.heap.size w10 w10.drew := (Below.refl _ _).drew
            have hpl10 := kp10.lt
            replace p0 := kp10.cell 0 _ rfl
            have HKF : Hid (∀ W, Below w10.heap.size w10 W → W.cell? ⟨P, 0, none⟩ = some (.int .i64 who)) := Lib.hid (fun W hb => (hb.cell (p := ⟨P, 0, none⟩) hpl10).trans p0)
            have HPE : Hid (∀ W, Below w10.heap.size w10 W → Calls Try.prog 22 #[.pointer xp, .int .i64 who] W fun e w' => e = .returned (.bool pb) ∧ Below w10.heap.size w10 w') := Lib.hid (fun W hb => (HA.out.pe W (sp10.below hb)).mono fun e w' ⟨h1, h2⟩ => ⟨h1, h2 ▸ hb⟩)
            have HPD : Hid (∀ W, Below w10.heap.size w10 W → Calls Try.prog 23 #[.pointer dp, .int .i64 who] W fun e w' => e = .returned (.bool pb) ∧ Below w10.heap.size w10 w') := Lib.hid (fun W hb => (HA.out.pd W (sp10.below hb)).mono fun e w' ⟨h1, h2⟩ => ⟨h1, h2 ▸ hb⟩)
            have HIE : Hid (∀ W, Below w10.heap.size w10 W → Calls Try.prog 24 #[.pointer xp, .int .i64 who] W fun e w' => e = .returned (.bool pn) ∧ Below w10.heap.size w10 w') := Lib.hid (fun W hb => (HA.out.ie W (sp10.below hb)).mono fun e w' ⟨h1, h2⟩ => ⟨h1, h2 ▸ hb⟩)
            have HID : Hid (∀ W, Below w10.heap.size w10 W → Calls Try.prog 25 #[.pointer dp, .int .i64 who] W fun e w' => e = .returned (.bool pn) ∧ Below w10.heap.size w10 w') := Lib.hid (fun W hb => (HA.out.id W (sp10.below hb)).mono fun e w' ⟨h1, h2⟩ => ⟨h1, h2 ▸ hb⟩)
            have HEE : Hid (∀ W, Below w10.heap.size w10 W → Calls Try.prog 26 #[.pointer xp] W fun e w' => e = .returned (.int .i64 (E : Int)) ∧ Below w10.heap.size w10 w') := Lib.hid (fun W hb => (HA.out.ee W (sp10.below hb)).mono fun e w' ⟨h1, h2⟩ => ⟨h1, h2 ▸ hb⟩)
            have HED : Hid (∀ W, Below w10.heap.size w10 W → Calls Try.prog 27 #[.pointer dp] W fun e w' => e = .returned (.int .i64 (E : Int)) ∧ Below w10.heap.size w10 w') := Lib.hid (fun W hb => (HA.out.ed W (sp10.below hb)).mono fun e w' ⟨h1, h2⟩ => ⟨h1, h2 ▸ hb⟩)
            have HHD : Hid (∀ W, Below w10.heap.size w10 W → Calls Try.prog 29 #[.pointer dp, .int .i64 who] W fun e w' => ∃ A' c', e = .returned (.slice A' m2 c') ∧ OwnC w' w10.heap.size TI 1 A' m2 c' (thI l2) ∧ Below w10.heap.size w10 w') := Lib.hid (fun W hb => (HA.out.hd W (sp10.below hb)).mono fun e w' ⟨A', c', h1, h2, h3⟩ => ⟨A', c', h1, h2.lower hb.size, hb.trans (h3.mono hb.size)⟩)
            have HSM : Hid (∀ W A' c', Below w10.heap.size w10 W → OwnC W w10.heap.size TI 1 A' m2 c' (thI l2) → Calls Try.prog 28 #[.slice Ah m2 ch, .slice A' m2 c'] W fun e w' => e = .returned (.bool true) ∧ Below w10.heap.size w10 w') := Lib.hid (fun W A' c' hb hv => (sameInts_any W _ _ Ah A' m2 ch m2 c' l2 l2 true (decide_eq_true rfl) (argI_of (ho.below hb).arg) (argI_of hv.arg)).mono fun e w' ⟨h1, t, h2⟩ => ⟨h1, h2 ▸ below_drewN hb t⟩)
            have RM10 := Lib.hid ho.rm
            have hm2 : m2 ≤ maxLen := Nat.le_trans ho.arg.le ho.arg.cap
            unfold maxLen at hm2
            have ST10 := Lib.hid st10
            clear ho hb st10 sp10 kp10 HH HA
            go_wp2_with fail
            go_region_held3 (fun w' => w'.cell? ⟨P, 0, none⟩ = some (.int .i64 who))
              (first | (with_reducible exact HKF.out _ (by with_reducible assumption)) | exact HKF.out _ hd0)
              (first
              | ((with_reducible refine (HPE.out _ (by with_reducible assumption)).mono ?_); rintro e w5 ⟨rfl, hb5⟩)
              | ((with_reducible refine (HPD.out _ (by with_reducible assumption)).mono ?_); rintro e w5 ⟨rfl, hb5⟩)
              | ((with_reducible refine (HIE.out _ (by with_reducible assumption)).mono ?_); rintro e w5 ⟨rfl, hb5⟩)
              | ((with_reducible refine (HID.out _ (by with_reducible assumption)).mono ?_); rintro e w5 ⟨rfl, hb5⟩)
              | ((with_reducible refine (HEE.out _ (by with_reducible assumption)).mono ?_); rintro e w5 ⟨rfl, hb5⟩)
              | ((with_reducible refine (HED.out _ (by with_reducible assumption)).mono ?_); rintro e w5 ⟨rfl, hb5⟩)
              | ((with_reducible refine (HHD.out _ (by with_reducible assumption)).mono ?_); rintro e w5 ⟨A', c', rfl, hv5, hb5⟩)
              | ((with_reducible refine (HSM.out _ _ _ (by with_reducible assumption) (by with_reducible assumption)).mono ?_); rintro e w12 ⟨rfl, hb12⟩))
            all_goals
              have ST := Lib.hid (ST10.out.below hb12)
              have RM := Lib.hid (RM10.out.below hb12)
              clear hb12 HKF HPE HPD HIE HID HEE HED HHD HSM hd0 p0 ST10 RM10
              go_wp2
              go_loopw [145] (fun jv wl => ∃ j : Nat, j ≤ m2 ∧ jv = .int .i64 ((j : Nat) : Int) ∧ PyS w wl (.pointer xp) (.pointer dp) n0 k kD (thX Ah ++ [P]) s' s' ∧ Rm wl Ah m2) (fun jv _ => m2 - (intOf jv).toNat)
              case atStart => exact ⟨0, Nat.zero_le _, rfl, ST.out, RM.out⟩
              case round =>
                obtain ⟨j, hj, rfl, hst, hrm⟩ := hrel
                clear ST RM
                rcases Nat.lt_or_ge j m2 with hjl | hjl
                · obtain ⟨g, rfl, hg, hrc⟩ := hrm.resolve_left (by omega)
                  obtain ⟨⟨v, e0⟩, ez⟩ := hrc j hjl
                  have k0 : (0 : Int) ≤ (j : Int) := by omega
                  have k1 : (j : Int) < (m2 : Int) := by omega
                  have ST2 := Lib.hid (hst.put ((Off.refl [g] _).setCell (p := ⟨g, j, none⟩) (by simp) (.int .i64 98)) (by simp [thX]))
                  have RM2 := Lib.hid (Rm.set hrm j (.int .i64 98))
                  clear hst hrm hrc
                  go_wp2
                  go_roundw
                  case rel => exact ⟨j + 1, by omega, by go_num, ST2.out, RM2.out⟩
                  case measure => simp [intOf]; omega
                · obtain rfl : j = m2 := by omega
                  have k1 : ¬ (j : Int) < (j : Int) := by omega
                  have ST3 := Lib.hid (hst.less (Z' := []) (by simp))
                  clear hst hrm
                  go_wp2
                  go_roundw
                  case rel => exact ⟨i + 1, k, kD, s', by omega, by omega, by go_num, by omega, by omega, ST3.out⟩
                  case measure => simp [intOf]; omega
      · have h3' : (400 : Int) ≤ (i : Int) := by omega
        go_wp2
        go_ret
        exact ⟨rfl, S1.out.s.bel⟩
    · obtain rfl : i = n := by omega
      have j1 : ¬ (i : Int) < (i : Int) := by omega
      have C1 := Lib.hid hs
      clear hs
      go_wp2
      go_ret
      exact ⟨rfl, C1.out.bel⟩
end Go.Proofs.Ytpjgpiiibgogeaa
