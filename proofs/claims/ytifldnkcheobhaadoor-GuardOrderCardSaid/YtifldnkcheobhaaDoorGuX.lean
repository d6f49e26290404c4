/- guard: a nil ring, one hook, small copies -/
import Derived.Test.YtifldnkcheobhaaDoorLwB
import Derived.Test.YtifldnkcheobhaaDoorCcl
import Derived.Deep.RegionHeld3
import Derived.WideMake
import Derived.Test.YtifldnkcheobhaaDoorFuW
import Derived.Test.YtifldnkcheobhaaDoorRvC
import Derived.Lib.SliceRun

/- guard: a nil ring's calls; is a hook on; is an end a panic. -/
namespace Go.Proofs.YtifldnkcheobhaaDoor
open Go.RowKit
set_option maxRecDepth 100000
set_option linter.unusedVariables false
set_option linter.unusedSimpArgs false
set_option maxHeartbeats 4000000

theorem find_nil (w : World) (s : ByteArray) :
    Calls Tryd.prog 33 #[.pointer none, .string s] w fun e w' => e = .returned (.pointer none) ∧ w' = w := by
  go_enter Tryd.func33, Tryd.ntmps33
  go_wp2
  go_ret
  exact ⟨rfl, rfl⟩
theorem strikes_nil (w : World) (s : ByteArray) :
    Calls Tryd.prog 19 #[.pointer none, .string s] w fun e w' => e = .returned (.tuple #[.int .i64 0, .int .i64 7]) ∧ w' = w := by
  have HF := Lib.hid (find_nil w s)
  go_enter Tryd.func19, Tryd.ntmps19
  go_wp2_with fail
  with_reducible refine HF.out.mono ?_
  rintro e w' ⟨rfl, rfl⟩
  go_wp2
  go_ret2
  exact ⟨rfl, rfl⟩
theorem again_nil (w : World) (s : ByteArray) :
    Calls Tryd.prog 22 #[.pointer none, .string s] w fun e w' => e = .returned (.int .i64 7) ∧ w' = w := by
  have HF := Lib.hid (find_nil w s)
  go_enter Tryd.func22, Tryd.ntmps22
  go_wp2_with fail
  with_reducible refine HF.out.mono ?_
  rintro e w' ⟨rfl, rfl⟩
  go_wp2
  go_ret
  exact ⟨rfl, rfl⟩
theorem fire_nil (w : World) :
    Calls Tryd.prog 17 #[.pointer none] w fun e w' => e = .returned (.tuple #[.slice none 0 0, .int .i64 7]) ∧ w' = w := by
  go_enter Tryd.func17, Tryd.ntmps17
  go_wp2
  go_ret2
  exact ⟨rfl, rfl⟩
theorem live_nil (w : World) :
    Calls Tryd.prog 23 #[.pointer none] w fun e w' => e = .returned (.slice none 0 0) ∧ w' = w := by
  go_enter Tryd.func23, Tryd.ntmps23
  go_wp2
  go_ret
  exact ⟨rfl, rfl⟩
theorem isPanic_any (w : World) (c : Nat) (n : Int) :
    Calls Tryd.prog 42 #[.agg #[.int .u8 (c : Int), .int .i64 n]] w fun e w' => e = .returned (.bool ((c : Int) != 0)) ∧ Below w.heap.size w w' := by
  have b1 := (Below.refl w.heap.size w).alloc (Nat.le_refl _) (.cells #[.int .u8 (c : Int), .int .i64 n] 26)
  have HB := Lib.hid b1
  clear b1
  go_enter Tryd.func42, Tryd.ntmps42
  go_wp2
  go_ret
  exact ⟨rfl, HB.out⟩
end Go.Proofs.YtifldnkcheobhaaDoor


/- guard: One of a nil ring; is a hook on. -/
namespace Go.Proofs.YtifldnkcheobhaaDoor
open Go.RowKit
set_option maxRecDepth 100000
set_option linter.unusedVariables false
set_option linter.unusedSimpArgs false
set_option maxHeartbeats 4000000

theorem isOn_any (w : World) (rb hb : Nat) (H M P : Value) (nm : ByteArray) (lim st : Int) (hr : BlkL w rb [H, M, .int .i64 lim]) (hh : BlkL w hb [.string nm, P, .int .i64 st]) :
    Calls Tryd.prog 31 #[.pointer (some ⟨rb, 0, none⟩), .pointer (some ⟨hb, 0, none⟩)] w fun e w' => e = .returned (.bool (decide (st < lim))) ∧ w' = w.drew := by
  have r2 := hr.cell 2 _ rfl
  have h2 := hh.cell 2 _ rfl
  have rl := hr.lt
  have hl := hh.lt
  clear hr hh
  go_enter Tryd.func31, Tryd.ntmps31
  go_upto_region 1 with (fail)
  go_region
  go_wp2
  go_ret
  exact ⟨rfl, rfl⟩
def repNil : Value := .agg #[.string ⟨#[]⟩, .slice none 0 0, .int .u8 0, .int .i64 0, .bool false]
theorem results_one (tmps : Array Value) (w : World) (b : Nat) (x0 x1 x2 x3 x4 y : Value) (h4 : tmps[4]? = some (.pointer (some ⟨b, 0, none⟩))) (h5 : tmps[5]? = some y) (hb : BlkL w b [x0, x1, x2, x3, x4]) :
    (results Tryd.f20 tmps).run Tryd.prog w = .ok (.tuple #[.agg #[x0, x1, x2, x3, x4], y]) w := by
  have z0 := hb.cell 0 _ rfl
  have z1 := hb.cell 1 _ rfl
  have z2 := hb.cell 2 _ rfl
  have z3 := hb.cell 3 _ rfl
  have z4 := hb.cell 4 _ rfl
  simp [results, Tryd.results20, go_sem, h4, h5, z0, z1, z2, z3, z4]
theorem one_nil (w : World) (s : ByteArray) :
    Calls Tryd.prog 20 #[.pointer none, .string s] w fun e w' => e = .returned (.tuple #[repNil, .int .i64 7]) ∧ Below w.heap.size w w' := by
  have HF : Hid (∀ W, Calls Tryd.prog 33 #[.pointer none, .string s] W fun e w' => e = .returned (.pointer none) ∧ w' = W) := Lib.hid (fun W => find_nil W s)
  have hb := BlkL.new w [.string ⟨#[]⟩, .slice none 0 0, .int .u8 0, .int .i64 0, .bool false] 56
  have b1 := (Below.refl w.heap.size w).alloc (Nat.le_refl _) (.cells #[.string ⟨#[]⟩, .slice none 0 0, .int .u8 0, .int .i64 0, .bool false] 56)
  have HBK := Lib.hid hb
  have HB := Lib.hid b1
  clear hb b1
  go_enter Tryd.func20, Tryd.ntmps20
  go_wp2_with fail
  with_reducible refine (HF.out _).mono ?_
  rintro e w' ⟨rfl, rfl⟩
  go_wp2
  exact bodyPost_ret (v := .tuple #[repNil, .int .i64 7]) (results_one _ _ w.heap.size _ _ _ _ _ _ rfl rfl HBK.out) rfl ⟨rfl, HB.out⟩
end Go.Proofs.YtifldnkcheobhaaDoor


/- guard: a hook is run, and panics. -/
namespace Go.Proofs.YtifldnkcheobhaaDoor
open Go.RowKit
set_option maxRecDepth 100000
set_option linter.unusedVariables false
set_option linter.unusedSimpArgs false
set_option maxHeartbeats 4000000

theorem ProgQ.mono {w : World} {B B' : Nat} {Pa : Value} {p : List (List ActV)} (h : ProgQ w B Pa p) (hB : B ≤ B') : ProgQ w B' Pa p := by
  obtain ⟨A, c, h1, h2, h3⟩ := h
  refine ⟨A, c, h1, h2, fun a ha => ?_⟩
  obtain ⟨k1, k2, k3⟩ := h3 a ha
  refine ⟨k1, by omega, fun i f hf => ?_⟩
  obtain ⟨F, f1, A2, c2, g1, g2, g3⟩ := k3 i f hf
  refine ⟨F, f1, A2, c2, g1, g2, fun b hb => ?_⟩
  obtain ⟨e1, e2, e3, e4⟩ := g3 b hb
  exact ⟨e1, by omega, e3, e4⟩
theorem isOn_c (w : World) (rb hb : Nat) (lim st : Int) (r2 : w.cell? ⟨rb, 2, none⟩ = some (.int .i64 lim)) (h2 : w.cell? ⟨hb, 2, none⟩ = some (.int .i64 st)) :
    Calls Tryd.prog 31 #[.pointer (some ⟨rb, 0, none⟩), .pointer (some ⟨hb, 0, none⟩)] w fun e w' => e = .returned (.bool (decide (st < lim))) ∧ w' = w.drew := by
  go_enter Tryd.func31, Tryd.ntmps31
  go_upto_region 1 with (fail)
  go_region
  go_wp2
  go_ret
  exact ⟨rfl, rfl⟩
theorem results_fire (tmps : Array Value) (w : World) (b : Nat) (x0 x1 x2 x3 x4 : Value) (h4 : tmps[4]? = some (.pointer (some ⟨b, 0, none⟩))) (hb : BlkL w b [x0, x1, x2, x3, x4]) :
    (results Tryd.f32 tmps).run Tryd.prog w = .ok (.agg #[x0, x1, x2, x3, x4]) w := by
  have z0 := hb.cell 0 _ rfl
  have z1 := hb.cell 1 _ rfl
  have z2 := hb.cell 2 _ rfl
  have z3 := hb.cell 3 _ rfl
  have z4 := hb.cell 4 _ rfl
  simp [results, Tryd.results32, go_sem, h4, z0, z1, z2, z3, z4]
theorem fire_pan {w0 w : World} (h0 : Lib0 w0) (hb : Below w0.heap.size w0 w) (rb hk : Nat) (H M Pv : Value) (nm : ByteArray) (lim st : Int) (p : List (List ActV)) (hr : BlkL w rb [H, M, .int .i64 lim]) (hh : BlkL w hk [.string nm, Pv, .int .i64 st]) (hne : ¬ rb = hk) (hq : ProgQ w w.heap.size Pv p) (hp : ProgOk p) (c : Nat) (n : Int)
    (ho : (runP p).out = some (c, n)) (hc : ¬ c = 0) (hst : 0 ≤ st ∧ st ≤ 1000000) :
    Calls Tryd.prog 32 #[.pointer (some ⟨rb, 0, none⟩), .pointer (some ⟨hk, 0, none⟩)] w fun e w' => ∃ A cc, e = .returned (.agg #[.string nm, .slice A (runP p).st.marks.length cc, .int .u8 (c : Int), .int .i64 n, .bool (!decide (st + 1 < lim))]) ∧ OwnS w' w.heap.size 3 A (runP p).st.marks.length cc (FMk (runP p).st.marks) ∧ Off [hk] w w' ∧ BlkL w' hk [.string nm, Pv, .int .i64 (st + 1)] := by
  have b1 := (Below.refl w.heap.size w).alloc (Nat.le_refl _) (.cells #[.string ⟨#[]⟩, .slice none 0 0, .int .u8 0, .int .i64 0, .bool false] 56)
  have k1 := BlkL.new w [.string ⟨#[]⟩, .slice none 0 0, .int .u8 0, .int .i64 0, .bool false] 56
  have hr1 := hr.below b1
  have hh1 := hh.below b1
  have hrun := run_ok h0 (hb.trans (b1.mono hb.size)) ((hq.below b1).mono b1.size) hp
  have hw := hh.lt
  have hw2 := hr.lt
  obtain ⟨ml, hml⟩ : ∃ ml, (runP p).st.marks = ml := ⟨_, rfl⟩
  have hwr : IntKind.i64.wrap (st + 1) = st + 1 := IntWalk.i64_in _ (by omega)
  have p1 := hh1.cell 1 _ rfl
  have pl := hh1.lt
  have HRUN := Lib.hid hrun
  have HML := Lib.hid hml
  have HO := Lib.hid ho
  have HB1 := Lib.hid b1
  have K1 := Lib.hid k1
  have R1 := Lib.hid hr1
  have H1 := Lib.hid hh1
  clear b1 k1 hr1 hh1 hrun hml ho hr hh hq
  go_enter Tryd.func32, Tryd.ntmps32
  go_wp2_with fail
  with_reducible refine HRUN.out.mono ?_
  intro e w2 hE
  obtain ⟨A, cc, rfl, ho2, hb2⟩ := hE
  rw [HO.out, HML.out]
  simp only [noneV]
  rw [HML.out] at ho2
  have k2 := K1.out.below hb2
  have r2 := R1.out.below hb2
  have h2 := H1.out.below hb2
  have B2 := HB1.out.trans (hb2.mono HB1.out.size)
  have OS2 := Lib.hid ho2
  have b3 := (Below.refl w2.heap.size w2).alloc (Nat.le_refl _) (.cells #[.int .u8 (c : Int), .int .i64 n] 26)
  have K3 := Lib.hid (k2.below b3)
  have R3 := Lib.hid (r2.below b3)
  have H3 := Lib.hid (h2.below b3)
  have E3 := Lib.hid (BlkL.new w2 [.int .u8 (c : Int), .int .i64 n] 26)
  have B3 := Lib.hid (B2.trans (b3.mono B2.size))
  have O3 := Lib.hid (OS2.out.below b3)
  have HPN : Hid (∀ W, Calls Tryd.prog 42 #[.agg #[.int .u8 (c : Int), .int .i64 n]] W fun e w' => e = .returned (.bool ((c : Int) != 0)) ∧ Below W.heap.size W w') := Lib.hid (fun W => isPanic_any W c n)
  have hcc : ((c : Int) != 0) = true := by simp; omega
  have HS2 : Hid (w.heap.size < w2.heap.size) := Lib.hid (by have := K1.out.lt; have := hb2.size; omega)
  clear k2 r2 h2 B2 b3 ho2 hb2 p1 pl
  go_wp2_with fail
  with_reducible refine (HPN.out _).mono ?_
  rintro e w4 ⟨rfl, hb4⟩
  rw [hcc]
  have k4 := K3.out.below hb4
  have r4 := R3.out.below hb4
  have h4 := H3.out.below hb4
  have e4 := E3.out.below hb4
  have eb1 : w.heap.size < w2.heap.size := HS2.out
  have hkn : ¬ w.heap.size = hk := by omega
  have nn1 : ¬ w.heap.size = w2.heap.size := by omega
  have nn2 : ¬ w2.heap.size = w.heap.size := by omega
  have hk2n : ¬ w2.heap.size = hk := by omega
  have q2 := h4.cell 2 _ rfl
  have qf := h4.froz 2 (by simp)
  have ql := h4.lt
  have h5 := h4.set 2 (.int .i64 (st + 1)) (by simp)
  have r5 := r4.other hk 2 (.int .i64 (st + 1)) (by omega)
  have k5 := k4.other hk 2 (.int .i64 (st + 1)) (by omega)
  have e5 := e4.other hk 2 (.int .i64 (st + 1)) (by omega)
  have B4 := B3.out.trans (hb4.mono B3.out.size)
  have OF5 : Off [hk] w (w4.setCell ⟨hk, 2, none⟩ (.int .i64 (st + 1))) := (Off.of_below B4).setCell (by simp) _
  have O4 := O3.out.below hb4
  have O5 : OwnS (w4.setCell ⟨hk, 2, none⟩ (.int .i64 (st + 1))) (w.alloc (.cells #[.string ⟨#[]⟩, .slice none 0 0, .int .u8 0, .int .i64 0, .bool false] 56)).heap.size 3 A ml.length cc (FMk ml) := O4.off (S := [hk]) ((Off.refl [hk] w4).setCell (by simp) _) (by intro y hy; have := (O4.lt y hy).1; simp at this ⊢; omega)
  clear k4 r4 h4 e4 B4 O4 hb4
  go_upto_region 4 with (fail)
  revert h5 r5 k5 e5 OF5 O5
  generalize w4.setCell ⟨hk, 2, none⟩ (.int .i64 (st + 1)) = w5
  intro h5 r5 k5 e5 OF5 O5
  clear q2 qf ql
  have HK5 := Lib.hid k5
  have HH5 := Lib.hid h5
  have HOF := Lib.hid OF5
  have HO5 := Lib.hid O5
  have a0 := h5.cell 0 _ rfl
  have a2 := h5.cell 2 _ rfl
  have al := h5.lt
  have c2 := r5.cell 2 _ rfl
  have e0 := e5.cell 0 _ rfl
  have e1 := e5.cell 1 _ rfl
  have x0 := k5.cell 0 _ rfl
  have x1 := k5.cell 1 _ rfl
  have x2 := k5.cell 2 _ rfl
  have x3 := k5.cell 3 _ rfl
  have x4 := k5.cell 4 _ rfl
  have f0 := k5.froz 0 (by simp)
  have f1 := k5.froz 1 (by simp)
  have f2 := k5.froz 2 (by simp)
  have f3 := k5.froz 3 (by simp)
  have f4 := k5.froz 4 (by simp)
  have HON : Hid (Calls Tryd.prog 31 #[.pointer (some ⟨rb, 0, none⟩), .pointer (some ⟨hk, 0, none⟩)] w5.drew fun e w' => e = .returned (.bool (decide (st + 1 < lim))) ∧ w' = w5.drew.drew) := Lib.hid (isOn_c w5.drew rb hk lim (st + 1) c2 a2)
  clear h5 r5 k5 e5 OF5 O5
  go_region_held3 (fun w' => w'.cell? ⟨hk, 0, none⟩ = some (.string nm) ∧ w'.cell? ⟨w2.heap.size, 0, none⟩ = some (.int .u8 (c : Int)) ∧ w'.cell? ⟨w2.heap.size, 1, none⟩ = some (.int .i64 n)) (go_keep)
    (first
      | (((with_reducible refine HON.out.mono ?_); rintro e w6 ⟨rfl, rfl⟩)))
  have kf := ((((((HK5.out.set 0 (.string nm) (by simp)).set 1 (.slice A ml.length cc) (by simp)).set 2 (.int .u8 (c : Int)) (by simp)).set 3 (.int .i64 n) (by simp)).set 4 (.bool (!decide (st + 1 < lim))) (by simp)).drew).drew
  have hf := ((((((HH5.out.other w.heap.size 0 (.string nm) (by omega)).other w.heap.size 1 (.slice A ml.length cc) (by omega)).other w.heap.size 2 (.int .u8 (c : Int)) (by omega)).other w.heap.size 3 (.int .i64 n) (by omega)).other w.heap.size 4 (.bool (!decide (st + 1 < lim))) (by omega)).drew).drew
  have o5 : Off [w.heap.size] w5 ((((((w5.setCell ⟨w.heap.size, 0, none⟩ (.string nm)).setCell ⟨w.heap.size, 1, none⟩ (.slice A ml.length cc)).setCell ⟨w.heap.size, 2, none⟩ (.int .u8 (c : Int))).setCell ⟨w.heap.size, 3, none⟩ (.int .i64 n)).setCell ⟨w.heap.size, 4, none⟩ (.bool (!decide (st + 1 < lim)))).drew.drew) := ((((((((Off.refl [w.heap.size] w5).setCell (by simp) _).setCell (by simp) _).setCell (by simp) _).setCell (by simp) _).setCell (by simp) _)).drew).drew
  have of : Off [hk] w ((((((w5.setCell ⟨w.heap.size, 0, none⟩ (.string nm)).setCell ⟨w.heap.size, 1, none⟩ (.slice A ml.length cc)).setCell ⟨w.heap.size, 2, none⟩ (.int .u8 (c : Int))).setCell ⟨w.heap.size, 3, none⟩ (.int .i64 n)).setCell ⟨w.heap.size, 4, none⟩ (.bool (!decide (st + 1 < lim)))).drew.drew) := (((((((HOF.out.setNew (p := ⟨w.heap.size, 0, none⟩) (Nat.le_refl _) _).setNew (p := ⟨w.heap.size, 1, none⟩) (Nat.le_refl _) _).setNew (p := ⟨w.heap.size, 2, none⟩) (Nat.le_refl _) _).setNew (p := ⟨w.heap.size, 3, none⟩) (Nat.le_refl _) _).setNew (p := ⟨w.heap.size, 4, none⟩) (Nat.le_refl _) _)).drew).drew
  have ow := (HO5.out.off o5 (by intro y hy hy2; have := (HO5.out.lt y hy).1; simp at this hy2; omega)).mono (B' := w.heap.size) (by simp)
  have KF := Lib.hid kf
  have HF := Lib.hid hf
  have OF := Lib.hid of
  have OW := Lib.hid ow
  clear kf hf o5 of ow
  go_wp2
  refine bodyPost_ret (v := .agg #[.string nm, .slice A ml.length cc, .int .u8 (c : Int), .int .i64 n, .bool (!decide (st + 1 < lim))]) (results_fire _ _ w.heap.size _ _ _ _ _ rfl KF.out) rfl ?_
  rw [HML.out]
  exact ⟨A, cc, rfl, OW.out, OF.out, HF.out⟩
end Go.Proofs.YtifldnkcheobhaaDoor


/- guard: Fire and Live of a ring with one hook. -/
namespace Go.Proofs.YtifldnkcheobhaaDoor
open Go.RowKit
set_option maxRecDepth 100000
set_option linter.unusedVariables false
set_option linter.unusedSimpArgs false
set_option maxHeartbeats 4000000

theorem rep_info : (Tryd.prog.info? 56).map (fun i => (i.zero, i.size, i.bytes)) = some (some repNil, 5, 64) := by kernel_rfl
theorem info_partsRep : ∃ i0, Tryd.prog.info? 56 = some i0 ∧ i0.zero = some repNil ∧ i0.size = 5 ∧ i0.bytes = 64 := by
  have h := rep_info
  cases hh : Tryd.prog.info? 56 with
  | none => rw [hh] at h; cases h
  | some i0 =>
    rw [hh] at h
    simp only [Option.map_some, Option.some.injEq, Prod.mk.injEq] at h
    exact ⟨i0, rfl, h.1, h.2.1, h.2.2⟩
theorem srcRep (w : World) (xs : List Value) (hl : xs.length = 5) (h1 : ∀ u ∈ xs, u.oneCell' = true) (t : TypeId) : SrcS (w.alloc (.cells xs.toArray t)) 5 (some ⟨w.heap.size, 0, none⟩) 1 xs :=
  BlkL.srcS (BlkL.new w xs t) h1 1 hl
/-- Live of a ring whose one hook is off. -/
theorem live_off (w : World) (rb hb ho hc hk : Nat) (M P : Value) (nm : ByteArray) (lim st : Int) (hr : BlkL w rb [.slice (some ⟨hb, ho, none⟩) 1 hc, M, .int .i64 lim]) (l0 : w.cell? ⟨hb, ho, none⟩ = some (.pointer (some ⟨hk, 0, none⟩))) (hh : BlkL w hk [.string nm, P, .int .i64 st]) (hoff : ¬ st < lim) :
    Calls Tryd.prog 23 #[.pointer (some ⟨rb, 0, none⟩)] w fun e w' => e = .returned (.slice none 0 0) ∧ ∃ k, w' = w.drewN k := by
  have HON := Lib.hid (isOn_any w rb hk _ M P nm lim st hr hh)
  have r0 := hr.cell 0 _ rfl
  have hd : decide (st < lim) = false := by simp; omega
  clear hr hh
  go_enter Tryd.func23, Tryd.ntmps23
  go_wp2_with fail
  go_loopw [3, 13] (fun lv iv wr => lv = .slice none 0 0 ∧ (iv = .int .i64 0 ∧ wr = w ∨ iv = .int .i64 1 ∧ wr = w.drew)) (fun _ iv _ => 1 - (intOf iv).toNat)
  case atStart => exact ⟨rfl, Or.inl ⟨rfl, rfl⟩⟩
  case round =>
    obtain ⟨rfl, hrel⟩ := hrel
    rcases hrel with ⟨rfl, rfl⟩ | ⟨rfl, rfl⟩
    · have h01 : IntKind.i64.wrap 1 = 1 := by decide
      go_wp2_with fail
      with_reducible refine HON.out.mono ?_
      rintro e w6 ⟨rfl, rfl⟩
      rw [hd]
      go_wp2
      go_roundw
      case rel => first | exact ⟨rfl, Or.inr ⟨rfl, rfl⟩⟩ | simp
      case measure => simp [intOf]
    · go_wp2
      go_ret
      exact ⟨rfl, 1, rfl⟩
/-- Fire of a ring whose one hook is on, and panics. -/
theorem fire_one {w0 w : World} (h0 : Lib0 w0) (hb0 : Below w0.heap.size w0 w) (rb hb ho hc hk : Nat) (M Pv : Value) (nm : ByteArray) (lim st : Int) (p : List (List ActV)) (hr : BlkL w rb [.slice (some ⟨hb, ho, none⟩) 1 hc, M, .int .i64 lim]) (l0 : w.cell? ⟨hb, ho, none⟩ = some (.pointer (some ⟨hk, 0, none⟩))) (hh : BlkL w hk [.string nm, Pv, .int .i64 st])
    (hne : ¬ rb = hk) (hq : ProgQ w w.heap.size Pv p) (hp : ProgOk p) (c : Nat) (n : Int) (hout : (runP p).out = some (c, n)) (hcz : ¬ c = 0) (hst : 0 ≤ st ∧ st ≤ 1000000) (hon : st < lim) :
    Calls Tryd.prog 17 #[.pointer (some ⟨rb, 0, none⟩)] w fun e w' => ∃ A' c' A cc, e = .returned (.tuple #[.slice A' 1 c', .int .i64 0]) ∧ OwnS w' w.heap.size 5 A' 1 c' [.string nm, .slice A (runP p).st.marks.length cc, .int .u8 (c : Int), .int .i64 n, .bool (!decide (st + 1 < lim))] ∧ Off [hk] w w' ∧ BlkL w' hk [.string nm, Pv, .int .i64 (st + 1)] := by
  obtain ⟨iR, hiR, hR0, hR1, hR2⟩ := info_partsRep
  have HON := Lib.hid (isOn_any w rb hk _ M Pv nm lim st hr hh)
  have bd := (Below.refl w.heap.size w).drew
  have HFI := Lib.hid (fire_pan h0 (hb0.drew) rb hk _ M Pv nm lim st p (hr.below bd) (hh.below bd) hne (hq.below bd) hp c n hout hcz hst)
  have r0 := hr.cell 0 _ rfl
  have hd : decide (st < lim) = true := by simp; omega
  have hkl := hh.lt
  obtain ⟨ml, hml⟩ : ∃ ml, (runP p).st.marks.length = ml := ⟨_, rfl⟩
  have HML := Lib.hid hml
  clear hr hh bd hq hml
  go_enter Tryd.func17, Tryd.ntmps17
  go_wp2_with fail
  go_loopw [4, 14] (fun lv iv wr => lv = .slice none 0 0 ∧ iv = .int .i64 0 ∧ wr = w ∨ ∃ A' c' A cc, lv = .slice A' 1 c' ∧ iv = .int .i64 1 ∧ OwnS wr w.heap.size 5 A' 1 c' [.string nm, .slice A ml cc, .int .u8 (c : Int), .int .i64 n, .bool (!decide (st + 1 < lim))] ∧ Off [hk] w wr ∧ BlkL wr hk [.string nm, Pv, .int .i64 (st + 1)]) (fun _ iv _ => 1 - (intOf iv).toNat)
  case atStart => exact Or.inl ⟨rfl, rfl, rfl⟩
  case round =>
    rcases hrel with ⟨rfl, rfl, rfl⟩ | ⟨A', c', A, cc, rfl, rfl, ho', hof, hbk⟩
    · go_wp2_with fail
      with_reducible refine HON.out.mono ?_
      rintro e w6 ⟨rfl, rfl⟩
      rw [hd]
      go_wp2_with fail
      with_reducible refine HFI.out.mono ?_
      rintro e w7 ⟨A, cc, rfl, ho7, hof7, hbk7⟩
      rw [HML.out] at ho7 ⊢
      have hs7 := hof7.size
      have HSRC := Lib.hid (srcRep w7 [.string nm, .slice A ml cc, .int .u8 (c : Int), .int .i64 n, .bool (!decide (st + 1 < lim))] rfl (by simp [Value.oneCell']) 56)
      have b1 := (Below.refl w7.heap.size w7).alloc (Nat.le_refl _) (.cells #[.string nm, .slice A ml cc, .int .u8 (c : Int), .int .i64 n, .bool (!decide (st + 1 < lim))] 56)
      have HB1 := Lib.hid b1
      have hbb : wr.heap.size ≤ (w7.alloc (.cells #[.string nm, .slice A ml cc, .int .u8 (c : Int), .int .i64 n, .bool (!decide (st + 1 < lim))] 56)).heap.size := by have := b1.size; simp at hs7 this ⊢; omega
      have HOF := Lib.hid hof7
      have HBK := Lib.hid hbk7
      clear b1 ho7 hof7 hbk7
      go_wp2_with (refine wpList_append_s Tryd.underlying48 hiR hR0 hR1 hR2 rfl rfl (.tmp 21) (.tmp 25) rfl rfl (OwnS.nil _ wr.heap.size 5) (some ⟨w7.heap.size, 0, none⟩) 1 1 _ rfl HSRC.out (fun e => by cases e) (by omega) (by omega) hbb ?_)
      intro A3 c3 w8 ho8 hf8 hbk8
      have hb8 : Below w7.heap.size w7 w8 := HB1.out.trans (hf8.below (by simp) (by simp [bkV]))
      have HO8 := Lib.hid ho8
      have HF8 : Hid (Off [hk] wr w8) := Lib.hid ((Off.of_below (Below.refl wr.heap.size wr).drew).trans (HOF.out.trans (Off.of_below hb8)))
      have HK8 := Lib.hid (HBK.out.below hb8)
      clear ho8 hf8 hbk8 hb8
      go_wp2
      go_roundw
      case rel => exact Or.inr ⟨A3, c3, A, cc, rfl, rfl, HO8.out, HF8.out, HK8.out⟩
      case measure => simp [intOf]
    · have HO8 := Lib.hid ho'
      have HF8 := Lib.hid hof
      have HK8 := Lib.hid hbk
      go_wp2
      go_ret2
      exact ⟨A', c', A, cc, rfl, by rw [HML.out]; exact HO8.out, HF8.out, HK8.out⟩
end Go.Proofs.YtifldnkcheobhaaDoor


/- guard: what New asks of one hook. -/
namespace Go.Proofs.YtifldnkcheobhaaDoor
open Go.RowKit
set_option maxRecDepth 100000
set_option linter.unusedVariables false
set_option linter.unusedSimpArgs false
set_option maxHeartbeats 4000000

theorem guard_check_one (w : World) (hs : Nat) (nm : ByteArray) (Pv : Value) (k : Int) (p : List (List ActV)) (h : BlkL w hs [.string nm, Pv]) (hq : ProgQ w w.heap.size Pv p) (hp : ProgOk p) (hk : 1 ≤ k ∧ k ≤ 1000) :
    Calls Tryd.prog 28 #[.slice (some ⟨hs, 0, none⟩) 1 1, .int .i64 k] w fun e w' => e = .returned (.int .i64 0) ∧ Below w.heap.size w w' := by
  obtain ⟨PA, pc, rfl⟩ : ∃ PA pc, Pv = .slice PA p.length pc := by obtain ⟨A, c, h, _⟩ := hq; exact ⟨A, c, h⟩
  have q1 : ¬ k < 1 := by omega
  have q2 : ¬ 1000 < k := by omega
  have b1 := (Below.refl w.heap.size w).alloc (Nat.le_refl _) (.cells #[.string nm, .slice PA p.length pc] 81)
  have HC := Lib.hid (check_any _ w.heap.size (.slice PA p.length pc) p (hq.below b1) b1.size hp.range)
  have HB := Lib.hid b1
  have c0 := h.cell 0 _ rfl
  have c1 := h.cell 1 _ rfl
  have cl := h.lt
  clear b1 h hq
  go_enter Tryd.func28, Tryd.ntmps28
  go_wp2_with fail
  go_loopw [5, 20] (fun lv iv wr => lv = .int .i64 0 ∧ (iv = .int .i64 0 ∧ wr = w ∨ iv = .int .i64 1 ∧ Below w.heap.size w wr)) (fun _ iv _ => 1 - (intOf iv).toNat)
  case atStart => exact ⟨rfl, Or.inl ⟨rfl, rfl⟩⟩
  case round =>
    obtain ⟨rfl, hrel⟩ := hrel
    rcases hrel with ⟨rfl, rfl⟩ | ⟨rfl, hb⟩
    · go_wp2_with fail
      with_reducible refine HC.out.mono ?_
      rintro e w6 ⟨r, rfl, hcv, hof⟩
      obtain rfl := hp.chk hcv
      have HB6 : Hid (Below wr.heap.size wr w6) := Lib.hid (HB.out.trans (hof.below (by have := HB.out.size; exact this) (by simp)))
      clear hof hcv
      go_wp2
      go_roundw
      case rel => exact ⟨rfl, Or.inr ⟨rfl, HB6.out⟩⟩
      case measure => simp [intOf]
    · have HB6 := Lib.hid hb
      go_wp2
      go_ret
      exact ⟨rfl, HB6.out⟩
end Go.Proofs.YtifldnkcheobhaaDoor


/- guard: the name b. -/
namespace Go.Proofs.YtifldnkcheobhaaDoor
open Go.RowKit
set_option maxRecDepth 100000
set_option linter.unusedVariables false
set_option linter.unusedSimpArgs false
set_option maxHeartbeats 4000000

abbrev nmB : ByteArray := ⟨#[98]⟩
theorem isName_b (w : World) :
    Calls Tryd.prog 30 #[.string nmB] w fun e w' => e = .returned (.bool true) ∧ Below w.heap.size w w' := by
  go_enter Tryd.func30, Tryd.ntmps30
  go_wp2_with fail
  rw [Lib.run_convert_string_bytes w 9 109 5 nmB Tryd.underlying9 Tryd.underlying109 Tryd.underlying5]
  simp only [Result.andThen]
  rw [Oper.upon_value]
  have c0 : (Lib.bytesWorld w 5 nmB).cell? ⟨w.heap.size, 0, none⟩ = some (.int .u8 98) := Lib.bytesWorld_cell w 5 nmB 0 (by decide)
  have hbw : Below w.heap.size w (Lib.bytesWorld w 5 nmB) := Lib.bytesWorld_below w _ nmB
  revert c0 hbw
  generalize Lib.bytesWorld w 5 nmB = w1
  intro c0 hbw
  have HB := Lib.hid hbw
  clear hbw
  rw [show nmB.size = 1 from rfl]
  go_wp2_with fail
  go_loopw [16] (fun iv wr => wr = w1 ∧ (iv = .int .i64 0 ∨ iv = .int .i64 1)) (fun iv _ => 1 - (intOf iv).toNat)
  case atStart => exact ⟨rfl, Or.inl rfl⟩
  case round =>
    obtain ⟨rfl, hrel⟩ := hrel
    rcases hrel with rfl | rfl
    · go_wp2
      go_roundw
      case rel => first | exact ⟨rfl, Or.inr rfl⟩ | simp
      case measure => simp [intOf]
    · go_wp2
      go_ret
      exact ⟨rfl, HB.out⟩
end Go.Proofs.YtifldnkcheobhaaDoor


/- guard: a map of one name. -/
namespace Go.Proofs.YtifldnkcheobhaaDoor
open Go.RowKit
set_option maxRecDepth 100000
set_option linter.unusedVariables false
set_option linter.unusedSimpArgs false
set_option maxHeartbeats 4000000

theorem look_miss (w : World) (r clock : Nat) (s : ByteArray) (hb : w.heap[r]? = some (.map #[] clock)) :
    (Instr.lookup 83 (.map (some r)) (.string s) true).run Tryd.prog w = .ok (.tuple #[.int .i64 0, .bool false]) w := by
  have hk : Tryd.prog.underlying 9 = some .string := Tryd.underlying9
  have hf : Instr.findNow .string (.string s) ([] : List MapEntry) 0 = some none := rfl
  have hc : (Instr.checkKey true 10000 9 (.string s)).run Tryd.prog w = .ok () w := MapKept.run_checkKey (k := .string s) hk (by simp [MapKept.IsKey]) true 9999
  simp [Instr.lookup, run_underlying Tryd.underlying83, MapKept.run_getObj_map hb, hc, MapKept.run_findKey hk hf, Result.andThen, go_sem]
theorem look_hit (w : World) (r clock born : Nat) (v : Value) (hb : w.heap[r]? = some (.map #[{ key := .string nmB, val := v, born := born }] clock)) :
    (Instr.lookup 83 (.map (some r)) (.string nmB) true).run Tryd.prog w = .ok (.tuple #[v, .bool true]) w := by
  have hk : Tryd.prog.underlying 9 = some .string := Tryd.underlying9
  have hf : Instr.findNow .string (.string nmB) ([{ key := .string nmB, val := v, born := born }] : List MapEntry) 0 = some (some (0, v)) := by
    have hbb : (nmB == nmB) = true := by decide
    simp [Instr.findNow, Instr.sameNow, hbb]
  have hc : (Instr.checkKey false 10000 9 (.string nmB)).run Tryd.prog w = .ok () w := MapKept.run_checkKey (k := .string nmB) hk (by simp [MapKept.IsKey]) false 9999
  simp [Instr.lookup, run_underlying Tryd.underlying83, MapKept.run_getObj_map hb, hc, MapKept.run_findKey hk hf, Result.andThen, go_sem]
theorem find_b (w : World) (rb hb ho hc hk mb clock born : Nat) (L : Value) (hr : BlkL w rb [.slice (some ⟨hb, ho, none⟩) 1 hc, .map (some mb), L]) (l0 : w.cell? ⟨hb, ho, none⟩ = some (.pointer (some ⟨hk, 0, none⟩))) (hm : w.heap[mb]? = some (.map #[{ key := .string nmB, val := .int .i64 0, born := born }] clock)) :
    Calls Tryd.prog 33 #[.pointer (some ⟨rb, 0, none⟩), .string nmB] w fun e w' => e = .returned (.pointer (some ⟨hk, 0, none⟩)) ∧ w' = w := by
  have hlk := look_hit w mb clock born (.int .i64 0) hm
  have r0 := hr.cell 0 _ rfl
  have r1 := hr.cell 1 _ rfl
  clear hr hm
  go_enter Tryd.func33, Tryd.ntmps33
  go_wp2
  go_ret
  exact ⟨rfl, rfl⟩
theorem strikes_b (w : World) (rb hb ho hc hk mb clock born : Nat) (L P : Value) (nm : ByteArray) (st : Int) (hr : BlkL w rb [.slice (some ⟨hb, ho, none⟩) 1 hc, .map (some mb), L]) (l0 : w.cell? ⟨hb, ho, none⟩ = some (.pointer (some ⟨hk, 0, none⟩))) (hh : BlkL w hk [.string nm, P, .int .i64 st]) (hm : w.heap[mb]? = some (.map #[{ key := .string nmB, val := .int .i64 0, born := born }] clock)) :
    Calls Tryd.prog 19 #[.pointer (some ⟨rb, 0, none⟩), .string nmB] w fun e w' => e = .returned (.tuple #[.int .i64 st, .int .i64 0]) ∧ w' = w := by
  have HF := Lib.hid (find_b w rb hb ho hc hk mb clock born L hr l0 hm)
  have h2 := hh.cell 2 _ rfl
  clear hr hh hm
  go_enter Tryd.func19, Tryd.ntmps19
  go_wp2_with fail
  with_reducible refine HF.out.mono ?_
  rintro e w' ⟨rfl, rfl⟩
  go_wp2
  go_ret2
  exact ⟨rfl, rfl⟩
end Go.Proofs.YtifldnkcheobhaaDoor


/- guard: slices.Clone of one act; two empty reports are alike. -/
namespace Go.Proofs.YtifldnkcheobhaaDoor
open Go.RowKit
set_option maxRecDepth 100000
set_option linter.unusedVariables false
set_option linter.unusedSimpArgs false
set_option maxHeartbeats 4000000

theorem clone_one (w : World) (b : Nat) (x y : Value) (h : BlkL w b [x, y]) (hx : x.oneCell' = true) (hy : y.oneCell' = true) :
    Calls Tryd.prog 40 #[.slice (some ⟨b, 0, none⟩) 1 1] w fun e w' => ∃ A' c', e = .returned (.slice A' 1 c') ∧ OwnS w' w.heap.size 2 A' 1 c' [x, y] ∧ Below w.heap.size w w' := by
  obtain ⟨iA, hiA, hA0, hA1, hA2⟩ := info_partsAct
  have b1 := (Below.refl w.heap.size w).alloc (Nat.le_refl _) (.cells #[] 24)
  have HSRC := Lib.hid (BlkL.srcS (k := 2) (h.below b1) (by simp [hx, hy]) 1 rfl)
  have HO := Lib.hid (OwnS.lit (k := 2) (n := 0) (B := w.heap.size) (BlkL.new w [] 24) rfl (by unfold maxLen; omega) (Nat.le_refl _))
  have HB := Lib.hid b1
  have hcmp : ∀ w : World, (binOp .eql 33 (.slice (some ⟨b, 0, none⟩) 1 1) (.slice none 0 0)).run Tryd.prog w = .ok (.bool false) w := fun w => Lib.run_eql_slice_nil w _ _ _ 1 1 0 0 Tryd.underlying33
  clear b1 h
  go_enter Tryd.func40, Tryd.ntmps40
  go_wp2_with (refine wpList_append_s Tryd.underlying33 hiA hA0 hA1 hA2 rfl rfl (.tmp 5) (.tmp 6) rfl rfl HO.out (some ⟨b, 0, none⟩) 1 1 _ rfl HSRC.out (fun e => by cases e) (by omega) (by omega) (HB.out.size) ?_)
  intro A3 c3 w5 ho5 hf5 hbk5
  have HO5 := Lib.hid ho5
  have HB5 : Hid (Below w.heap.size w w5) := Lib.hid (HB.out.trans (hf5.below HB.out.size (by simp [bkV])))
  clear ho5 hf5 hbk5
  go_wp2
  go_ret
  exact ⟨A3, c3, rfl, HO5.out, HB5.out⟩
end Go.Proofs.YtifldnkcheobhaaDoor


/- guard: two empty reports are alike. -/
namespace Go.Proofs.YtifldnkcheobhaaDoor
open Go.RowKit
set_option maxRecDepth 100000
set_option linter.unusedVariables false
set_option linter.unusedSimpArgs false
set_option maxHeartbeats 4000000

theorem marks10_nil (w : World) :
    Calls Tryd.prog 34 #[.slice none 0 0, .slice none 0 0] w fun e w' => e = .returned (.bool true) ∧ w' = w := by
  go_enter Tryd.func34, Tryd.ntmps34
  go_wp2_with fail
  go_loopw [13] (fun iv wr => wr = w ∧ iv = .int .i64 0) (fun iv _ => 0)
  case atStart => exact ⟨rfl, rfl⟩
  case round =>
    obtain ⟨rfl, rfl⟩ := hrel
    go_wp2
    go_ret
    exact ⟨rfl, rfl⟩
theorem same10_nil (w : World) :
    Calls Tryd.prog 21 #[repNil, repNil] w fun e w' => e = .returned (.bool true) ∧ Below w.heap.size w w' := by
  have HM : Hid (∀ W, Calls Tryd.prog 34 #[.slice none 0 0, .slice none 0 0] W fun e w' => e = .returned (.bool true) ∧ w' = W) := Lib.hid (fun W => marks10_nil W)
  have b1 := ((Below.refl w.heap.size w).alloc (Nat.le_refl _) (.cells #[.string ⟨#[]⟩, .slice none 0 0, .int .u8 0, .int .i64 0, .bool false] 56)).alloc (by simp) (.cells #[.string ⟨#[]⟩, .slice none 0 0, .int .u8 0, .int .i64 0, .bool false] 66)
  have HB := Lib.hid b1
  clear b1
  go_enter Tryd.func21, Tryd.ntmps21
  unfold repNil
  go_wp2_with fail
  with_reducible refine (HM.out _).mono ?_
  rintro e w' ⟨rfl, rfl⟩
  go_wp2
  go_ret
  exact ⟨rfl, HB.out⟩
end Go.Proofs.YtifldnkcheobhaaDoor


/- guard: the copy of a hook with one act. -/
namespace Go.Proofs.YtifldnkcheobhaaDoor
open Go.RowKit
set_option maxRecDepth 100000
set_option linter.unusedVariables false
set_option linter.unusedSimpArgs false
set_option maxHeartbeats 4000000

theorem sclone_any (w : World) (s : ByteArray) (hl : s.size ≤ 1000) :
    Calls Tryd.prog 41 #[.string s] w fun e w' => e = .returned (.string s) ∧ Below w.heap.size w w' := by
  have HC := Lib.hid (Tryd.stringslite_Clone s w (by omega))
  go_enter Tryd.func41, Tryd.ntmps41
  go_wp2_with fail
  with_reducible refine HC.out.mono ?_
  rintro e w' ⟨rfl, hb⟩
  have HB := Lib.hid hb
  clear hb
  go_wp2
  go_ret
  exact ⟨rfl, HB.out⟩
theorem mkP01 (w : World) : (Instr.makeSlice 34 (.int .i64 0) (.int .i64 1)).run Tryd.prog w = .ok (.slice (some ⟨w.heap.size, 0, none⟩) 0 1) (w.alloc (.cells #[.slice none 0 0] 33)) := by
  obtain ⟨i0, hi, hz0, hz1, hz2⟩ := info_partsActs
  have h := run_make (P := Tryd.prog) w 34 33 i0 (.slice none 0 0) Tryd.underlying34 hi hz0 .i64 .i64 0 1 (by omega) (by omega) (by rw [hz2]; omega) (by omega)
  rw [h, hz1]
  have e : madeCells (Value.slice none 0 0).cells ((1 : Int).toNat * 1) = (List.replicate 1 (Value.slice none 0 0)).toArray := by
    have := toList_madeCells_one (.slice none 0 0) 1
    rw [← this]
    rfl
  rw [e]
  rfl
theorem OwnS.room {w : World} {b B : Nat} {x : Value} (h : BlkL w b [x]) (hB : B ≤ b) : OwnS w B 1 (some ⟨b, 0, none⟩) 0 1 [] := by
  refine ⟨rfl, by omega, by unfold maxLen; omega, (fun e => by cases e), fun a ha => ?_⟩
  injection ha with ha
  subst ha
  refine ⟨rfl, hB, h.lt, fun j hj => ?_, fun j v hv => by simp at hv⟩
  obtain rfl : j = 0 := by omega
  exact ⟨by rw [h.cell 0 x rfl]; rfl, h.froz 0 (by simp)⟩
theorem results_copied (tmps : Array Value) (w : World) (b : Nat) (x0 x1 : Value) (h2 : tmps[2]? = some (.pointer (some ⟨b, 0, none⟩))) (hb : BlkL w b [x0, x1]) :
    (results Tryd.f29 tmps).run Tryd.prog w = .ok (.agg #[x0, x1]) w := by
  have z0 := hb.cell 0 _ rfl
  have z1 := hb.cell 1 _ rfl
  simp [results, Tryd.results29, go_sem, h2, z0, z1]
theorem copied_one (w : World) (pb ab : Nat) (nm : ByteArray) (x y : Value) (hn : nm.size ≤ 1000) (hp : BlkL w pb [.slice (some ⟨ab, 0, none⟩) 1 1]) (ha : BlkL w ab [x, y]) (hx : x.oneCell' = true) (hy : y.oneCell' = true) :
    Calls Tryd.prog 29 #[.agg #[.string nm, .slice (some ⟨pb, 0, none⟩) 1 1]] w fun e w' => ∃ A c A2 c2, e = .returned (.agg #[.string nm, .slice A 1 c]) ∧ OwnS w' w.heap.size 1 A 1 c [.slice A2 1 c2] ∧ OwnS w' w.heap.size 2 A2 1 c2 [x, y] ∧ Below w.heap.size w w' := by
  obtain ⟨iP, hiP, hP0, hP1, hP2⟩ := info_partsActs
  have b1 := (Below.refl w.heap.size w).alloc (Nat.le_refl _) (.cells #[.string nm, .slice (some ⟨pb, 0, none⟩) 1 1] 81)
  have b2 := b1.alloc (by simp) (.cells #[.string ⟨#[]⟩, .slice none 0 0] 81)
  have b3 := b2.alloc (by simp <;> omega) (.cells #[.slice none 0 0] 33)
  have hp3 := hp.below b3
  have ha3 := ha.below b3
  have s1 : (w.alloc (.cells #[.string nm, .slice (some ⟨pb, 0, none⟩) 1 1] 81)).heap.size = w.heap.size + 1 := by simp
  have s2 : ((w.alloc (.cells #[.string nm, .slice (some ⟨pb, 0, none⟩) 1 1] 81)).alloc (.cells #[.string ⟨#[]⟩, .slice none 0 0] 81)).heap.size = w.heap.size + 1 + 1 := by simp
  have s3 : (((w.alloc (.cells #[.string nm, .slice (some ⟨pb, 0, none⟩) 1 1] 81)).alloc (.cells #[.string ⟨#[]⟩, .slice none 0 0] 81)).alloc (.cells #[.slice none 0 0] 33)).heap.size = w.heap.size + 3 := by simp
  have kb := ((BlkL.new w [.string nm, .slice (some ⟨pb, 0, none⟩) 1 1] 81).alloc (.cells #[.string ⟨#[]⟩, .slice none 0 0] 81)).alloc (.cells #[.slice none 0 0] 33)
  have kr := (BlkL.new (w.alloc (.cells #[.string nm, .slice (some ⟨pb, 0, none⟩) 1 1] 81)) [.string ⟨#[]⟩, .slice none 0 0] 81).alloc (.cells #[.slice none 0 0] 33)
  have km := BlkL.new ((w.alloc (.cells #[.string nm, .slice (some ⟨pb, 0, none⟩) 1 1] 81)).alloc (.cells #[.string ⟨#[]⟩, .slice none 0 0] 81)) [.slice none 0 0] 33
  rw [s1] at kr
  rw [s2] at km
  have hpl := hp.lt
  have hal := ha.lt
  clear b1 b2 hp ha
  go_enter Tryd.func29, Tryd.ntmps29
  go_wp2_with fail
  rw [mkP01]
  simp only [Result.andThen]
  rw [Oper.upon_value]
  rw [s2]
  clear s1 s2
  revert b3 hp3 ha3 s3 kb kr km
  generalize (((w.alloc (.cells #[.string nm, .slice (some ⟨pb, 0, none⟩) 1 1] 81)).alloc (.cells #[.string ⟨#[]⟩, .slice none 0 0] 81)).alloc (.cells #[.slice none 0 0] 33)) = w3
  intro b3 hp3 ha3 s3 kb kr km
  have HB3 := Lib.hid b3
  have HP := Lib.hid hp3
  have KB := Lib.hid kb
  have KR := Lib.hid kr
  have KM := Lib.hid km
  have HC := Lib.hid (clone_one w3 ab x y ha3 hx hy)
  have p0 := hp3.cell 0 _ rfl
  have bx1 := kb.cell 1 _ rfl
  have bx0 := kb.cell 0 _ rfl
  have bxl := kb.lt
  clear b3 hp3 ha3 kb kr km
  go_wp2_with fail
  go_loopw [3, 13] (fun lv iv wr => lv = .slice (some ⟨w.heap.size + 1 + 1, 0, none⟩) 0 1 ∧ iv = .int .i64 0 ∧ wr = w3 ∨ ∃ A c A2 c2, lv = .slice A 1 c ∧ iv = .int .i64 1 ∧ OwnS wr w.heap.size 1 A 1 c [.slice A2 1 c2] ∧ OwnS wr w3.heap.size 2 A2 1 c2 [x, y] ∧ Off [w.heap.size + 1 + 1] w3 wr ∧ ∀ y ∈ bkV A, y = w.heap.size + 1 + 1 ∨ w3.heap.size ≤ y) (fun _ iv _ => 1 - (intOf iv).toNat)
  case atStart => exact Or.inl ⟨rfl, rfl, rfl⟩
  case round =>
    rcases hrel with ⟨rfl, rfl, rfl⟩ | ⟨A, c, A2, c2, rfl, rfl, ho, ho2, hof, hbk⟩
    · go_wp2_with fail
      with_reducible refine HC.out.mono ?_
      rintro e w5 ⟨A2, c2, rfl, ho2, hb5⟩
      have hs5 := hb5.size
      have HSRC := Lib.hid (srcOne1 w5 (.slice A2 1 c2) rfl 33)
      have b6 := hb5.trans (((Below.refl w5.heap.size w5).alloc (Nat.le_refl _) (.cells #[.slice A2 1 c2] 33)).mono hb5.size)
      have HO1 := Lib.hid (OwnS.room (B := w.heap.size) (KM.out.below b6) (by omega))
      have HO2 := Lib.hid (ho2.below ((Below.refl w5.heap.size w5).alloc (Nat.le_refl _) (.cells #[.slice A2 1 c2] 33)))
      have HB6 := Lib.hid b6
      have hbb : w.heap.size ≤ (w5.alloc (.cells #[.slice A2 1 c2] 33)).heap.size := by simp; omega
      clear ho2 hb5 b6
      go_wp2_with (refine wpList_append_s Tryd.underlying34 hiP hP0 hP1 hP2 rfl rfl (.tmp 17) (.tmp 20) rfl rfl HO1.out (some ⟨w5.heap.size, 0, none⟩) 1 1 _ rfl HSRC.out (fun e => by cases e) (by omega) (by omega) hbb ?_)
      intro A3 c3 w6 ho6 hf6 hbk6
      have HA : Hid (OwnS w6 w.heap.size 1 A3 1 c3 [.slice A2 1 c2]) := Lib.hid ho6
      have HE : Hid (OwnS w6 wr.heap.size 2 A2 1 c2 [x, y]) := Lib.hid (HO2.out.off hf6 (by intro y hy hy2; have := (HO2.out.lt y hy).1; simp [bkV] at hy2; omega))
      have HF : Hid (Off [w.heap.size + 1 + 1] wr w6) := Lib.hid ((Off.of_below HB6.out).trans hf6)
      have HK : Hid (∀ y ∈ bkV A3, y = w.heap.size + 1 + 1 ∨ wr.heap.size ≤ y) := Lib.hid (fun y hy => (hbk6 y hy).elim (fun q => by simp [bkV] at q; exact Or.inl q) (fun q => Or.inr (by have := q.1; omega)))
      clear ho6 hf6 hbk6
      go_wp2
      go_roundw
      case rel => exact Or.inr ⟨A3, c3, A2, c2, rfl, rfl, HA.out, HE.out, HF.out, HK.out⟩
      case measure => simp [intOf]
    · have HA := Lib.hid ho
      have HE := Lib.hid ho2
      have HF := Lib.hid hof
      have HK := Lib.hid hbk
      have kb := KB.out.off hof (by simp <;> omega)
      have kr := KR.out.off hof (by simp <;> omega)
      have bw : Below w.heap.size w wr := HB3.out.trans (hof.below (by have := HB3.out.size; omega) (by simp; omega))
      have HBW := Lib.hid bw
      have KRr := Lib.hid kr
      have z0 := kb.cell 0 _ rfl
      have hs := hof.size
      have HS := Lib.hid (sclone_any wr nm hn)
      clear ho ho2 hof hbk kb kr bw
      go_wp2_with fail
      with_reducible refine HS.out.mono ?_
      rintro e w7 ⟨rfl, hb7⟩
      have HB7 := Lib.hid hb7
      have kr7 := KRr.out.below hb7
      have r0 := kr7.cell 0 _ rfl
      have r1 := kr7.cell 1 _ rfl
      have rf0 := kr7.froz 0 (by simp)
      have rf1 := kr7.froz 1 (by simp)
      have rl := kr7.lt
      have KF := Lib.hid ((kr7.set 0 (.string nm) (by simp)).set 1 (.slice A 1 c) (by simp))
      clear hb7 kr7
      go_wp2
      have o8 : Off [w.heap.size + 1] w7 ((w7.setCell ⟨w.heap.size + 1, 0, none⟩ (.string nm)).setCell ⟨w.heap.size + 1, 1, none⟩ (.slice A 1 c)) := ((Off.refl [w.heap.size + 1] w7).setCell (by simp) _).setCell (by simp) _
      refine bodyPost_ret (v := .agg #[.string nm, .slice A 1 c]) (results_copied _ _ (w.heap.size + 1) _ _ rfl KF.out) rfl ⟨A, c, A2, c2, rfl, ?_, ?_, ?_⟩
      · exact (HA.out.below HB7.out).off o8 (by intro y hy hy2; have := HK.out y hy; simp at hy2; omega)
      · exact ((HE.out.below HB7.out).off o8 (by intro y hy hy2; have := (HE.out.lt y hy).1; simp at hy2; omega)).mono (by omega)
      · exact (HBW.out.trans (HB7.out.mono HBW.out.size)).trans (o8.below (by have := HBW.out.size; have := HB7.out.size; omega) (by simp))
end Go.Proofs.YtifldnkcheobhaaDoor
