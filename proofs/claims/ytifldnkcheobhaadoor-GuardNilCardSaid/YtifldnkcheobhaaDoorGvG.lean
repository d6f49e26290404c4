/- guard: a hook is run, whether it panics or not. -/
import Derived.Test.YtifldnkcheobhaaDoorGvDF
import Derived.Deep.RegionHeld3
namespace Go.Proofs.YtifldnkcheobhaaDoor
open Go.RowKit
set_option maxRecDepth 100000
set_option linter.unusedVariables false
set_option linter.unusedSimpArgs false
set_option maxHeartbeats 4000000

theorem fire_p {w0 w : World} (h0 : Lib0 w0) (hb : Below w0.heap.size w0 w) (rb hk : Nat) (H M Pv : Value) (nm : ByteArray) (lim st : Int) (p : List (List ActV)) (hr : BlkL w rb [H, M, .int .i64 lim]) (hh : BlkL w hk [.string nm, Pv, .int .i64 st]) (hne : ¬ rb = hk) (hq : ProgQ w w.heap.size Pv p) (hp : ProgOk p) (c : Nat) (n : Int)
    (ho : noneV (runP p).out = (c, n)) (hc : ¬ c = 0) (hst : 0 ≤ st ∧ st ≤ 1000000) :
    Calls Tryd.prog 32 #[.pointer (some ⟨rb, 0, none⟩), .pointer (some ⟨hk, 0, none⟩)] w fun e w' => ∃ A cc, e = .returned (.agg #[.string nm, .slice A (runP p).st.marks.length cc, .int .u8 (c : Int), .int .i64 n, .bool (!decide (st + 1 < lim))]) ∧ OwnS w' w.heap.size 3 A (runP p).st.marks.length cc (FMk (runP p).st.marks) ∧ Off [hk] w w' ∧ BlkL w' hk [.string nm, Pv, .int .i64 (st + 1)] := by
  have b1 := (Below.refl w.heap.size w).alloc (Nat.le_refl _) (.cells #[.string ⟨#[]⟩, .slice none 0 0, .int .u8 0, .int .i64 0, .bool false] 56)
  have k1 := BlkL.new w [.string ⟨#[]⟩, .slice none 0 0, .int .u8 0, .int .i64 0, .bool false] 56
  have hr1 := hr.below b1
  have hh1 := hh.below b1
  have hrun := run_ok h0 (hb.trans (b1.mono hb.size)) ((hq.below b1).mono b1.size) hp
  have hw := hh.lt
  have hw2 := hr.lt
  obtain ⟨ml, hml⟩ : ∃ ml, (runP p).st.marks = ml := ⟨_, rfl⟩
  have hwr : IntKind.i64.wrap (st + 1) = st + 1 := IntWalk.i64_in _ (by omega)
  have p1 := hh1.cell 1 _ rfl
  have pl := hh1.lt
  have HRUN := Lib.hid hrun
  have HML := Lib.hid hml
  have HO := Lib.hid ho
  have HB1 := Lib.hid b1
  have K1 := Lib.hid k1
  have R1 := Lib.hid hr1
  have H1 := Lib.hid hh1
  clear b1 k1 hr1 hh1 hrun hml ho hr hh hq
  go_enter Tryd.func32, Tryd.ntmps32
  go_wp2_with fail
  with_reducible refine HRUN.out.mono ?_
  intro e w2 hE
  obtain ⟨A, cc, rfl, ho2, hb2⟩ := hE
  rw [HO.out, HML.out]
  rw [HML.out] at ho2
  have k2 := K1.out.below hb2
  have r2 := R1.out.below hb2
  have h2 := H1.out.below hb2
  have B2 := HB1.out.trans (hb2.mono HB1.out.size)
  have OS2 := Lib.hid ho2
  have b3 := (Below.refl w2.heap.size w2).alloc (Nat.le_refl _) (.cells #[.int .u8 (c : Int), .int .i64 n] 26)
  have K3 := Lib.hid (k2.below b3)
  have R3 := Lib.hid (r2.below b3)
  have H3 := Lib.hid (h2.below b3)
  have E3 := Lib.hid (BlkL.new w2 [.int .u8 (c : Int), .int .i64 n] 26)
  have B3 := Lib.hid (B2.trans (b3.mono B2.size))
  have O3 := Lib.hid (OS2.out.below b3)
  have HPN : Hid (∀ W, Calls Tryd.prog 42 #[.agg #[.int .u8 (c : Int), .int .i64 n]] W fun e w' => e = .returned (.bool ((c : Int) != 0)) ∧ Below W.heap.size W w') := Lib.hid (fun W => isPanic_any W c n)
  have hcc : ((c : Int) != 0) = true := by simp; omega
  have HS2 : Hid (w.heap.size < w2.heap.size) := Lib.hid (by have := K1.out.lt; have := hb2.size; omega)
  clear k2 r2 h2 B2 b3 ho2 hb2 p1 pl
  go_wp2_with fail
  with_reducible refine (HPN.out _).mono ?_
  rintro e w4 ⟨rfl, hb4⟩
  rw [hcc]
  have k4 := K3.out.below hb4
  have r4 := R3.out.below hb4
  have h4 := H3.out.below hb4
  have e4 := E3.out.below hb4
  have eb1 : w.heap.size < w2.heap.size := HS2.out
  have hkn : ¬ w.heap.size = hk := by omega
  have nn1 : ¬ w.heap.size = w2.heap.size := by omega
  have nn2 : ¬ w2.heap.size = w.heap.size := by omega
  have hk2n : ¬ w2.heap.size = hk := by omega
  have q2 := h4.cell 2 _ rfl
  have qf := h4.froz 2 (by simp)
  have ql := h4.lt
  have h5 := h4.set 2 (.int .i64 (st + 1)) (by simp)
  have r5 := r4.other hk 2 (.int .i64 (st + 1)) (by omega)
  have k5 := k4.other hk 2 (.int .i64 (st + 1)) (by omega)
  have e5 := e4.other hk 2 (.int .i64 (st + 1)) (by omega)
  have B4 := B3.out.trans (hb4.mono B3.out.size)
  have OF5 : Off [hk] w (w4.setCell ⟨hk, 2, none⟩ (.int .i64 (st + 1))) := (Off.of_below B4).setCell (by simp) _
  have O4 := O3.out.below hb4
  have O5 : OwnS (w4.setCell ⟨hk, 2, none⟩ (.int .i64 (st + 1))) (w.alloc (.cells #[.string ⟨#[]⟩, .slice none 0 0, .int .u8 0, .int .i64 0, .bool false] 56)).heap.size 3 A ml.length cc (FMk ml) := O4.off (S := [hk]) ((Off.refl [hk] w4).setCell (by simp) _) (by intro y hy; have := (O4.lt y hy).1; simp at this ⊢; omega)
  clear k4 r4 h4 e4 B4 O4 hb4
  go_upto_region 4 with (fail)
  revert h5 r5 k5 e5 OF5 O5
  generalize w4.setCell ⟨hk, 2, none⟩ (.int .i64 (st + 1)) = w5
  intro h5 r5 k5 e5 OF5 O5
  clear q2 qf ql
  have HK5 := Lib.hid k5
  have HH5 := Lib.hid h5
  have HOF := Lib.hid OF5
  have HO5 := Lib.hid O5
  have a0 := h5.cell 0 _ rfl
  have a2 := h5.cell 2 _ rfl
  have al := h5.lt
  have c2 := r5.cell 2 _ rfl
  have e0 := e5.cell 0 _ rfl
  have e1 := e5.cell 1 _ rfl
  have x0 := k5.cell 0 _ rfl
  have x1 := k5.cell 1 _ rfl
  have x2 := k5.cell 2 _ rfl
  have x3 := k5.cell 3 _ rfl
  have x4 := k5.cell 4 _ rfl
  have f0 := k5.froz 0 (by simp)
  have f1 := k5.froz 1 (by simp)
  have f2 := k5.froz 2 (by simp)
  have f3 := k5.froz 3 (by simp)
  have f4 := k5.froz 4 (by simp)
  have HON : Hid (Calls Tryd.prog 31 #[.pointer (some ⟨rb, 0, none⟩), .pointer (some ⟨hk, 0, none⟩)] w5.drew fun e w' => e = .returned (.bool (decide (st + 1 < lim))) ∧ w' = w5.drew.drew) := Lib.hid (isOn_c w5.drew rb hk lim (st + 1) c2 a2)
  clear h5 r5 k5 e5 OF5 O5
  go_region_held3 (fun w' => w'.cell? ⟨hk, 0, none⟩ = some (.string nm) ∧ w'.cell? ⟨w2.heap.size, 0, none⟩ = some (.int .u8 (c : Int)) ∧ w'.cell? ⟨w2.heap.size, 1, none⟩ = some (.int .i64 n)) (go_keep)
    (first
      | (((with_reducible refine HON.out.mono ?_); rintro e w6 ⟨rfl, rfl⟩)))
  have kf := ((((((HK5.out.set 0 (.string nm) (by simp)).set 1 (.slice A ml.length cc) (by simp)).set 2 (.int .u8 (c : Int)) (by simp)).set 3 (.int .i64 n) (by simp)).set 4 (.bool (!decide (st + 1 < lim))) (by simp)).drew).drew
  have hf := ((((((HH5.out.other w.heap.size 0 (.string nm) (by omega)).other w.heap.size 1 (.slice A ml.length cc) (by omega)).other w.heap.size 2 (.int .u8 (c : Int)) (by omega)).other w.heap.size 3 (.int .i64 n) (by omega)).other w.heap.size 4 (.bool (!decide (st + 1 < lim))) (by omega)).drew).drew
  have o5 : Off [w.heap.size] w5 ((((((w5.setCell ⟨w.heap.size, 0, none⟩ (.string nm)).setCell ⟨w.heap.size, 1, none⟩ (.slice A ml.length cc)).setCell ⟨w.heap.size, 2, none⟩ (.int .u8 (c : Int))).setCell ⟨w.heap.size, 3, none⟩ (.int .i64 n)).setCell ⟨w.heap.size, 4, none⟩ (.bool (!decide (st + 1 < lim)))).drew.drew) := ((((((((Off.refl [w.heap.size] w5).setCell (by simp) _).setCell (by simp) _).setCell (by simp) _).setCell (by simp) _).setCell (by simp) _)).drew).drew
  have of : Off [hk] w ((((((w5.setCell ⟨w.heap.size, 0, none⟩ (.string nm)).setCell ⟨w.heap.size, 1, none⟩ (.slice A ml.length cc)).setCell ⟨w.heap.size, 2, none⟩ (.int .u8 (c : Int))).setCell ⟨w.heap.size, 3, none⟩ (.int .i64 n)).setCell ⟨w.heap.size, 4, none⟩ (.bool (!decide (st + 1 < lim)))).drew.drew) := (((((((HOF.out.setNew (p := ⟨w.heap.size, 0, none⟩) (Nat.le_refl _) _).setNew (p := ⟨w.heap.size, 1, none⟩) (Nat.le_refl _) _).setNew (p := ⟨w.heap.size, 2, none⟩) (Nat.le_refl _) _).setNew (p := ⟨w.heap.size, 3, none⟩) (Nat.le_refl _) _).setNew (p := ⟨w.heap.size, 4, none⟩) (Nat.le_refl _) _)).drew).drew
  have ow := (HO5.out.off o5 (by intro y hy hy2; have := (HO5.out.lt y hy).1; simp at this hy2; omega)).mono (B' := w.heap.size) (by simp)
  have KF := Lib.hid kf
  have HF := Lib.hid hf
  have OF := Lib.hid of
  have OW := Lib.hid ow
  clear kf hf o5 of ow
  go_wp2
  refine bodyPost_ret (v := .agg #[.string nm, .slice A ml.length cc, .int .u8 (c : Int), .int .i64 n, .bool (!decide (st + 1 < lim))]) (results_fire _ _ w.heap.size _ _ _ _ _ rfl KF.out) rfl ?_
  rw [HML.out]
  exact ⟨A, cc, rfl, OW.out, OF.out, HF.out⟩
theorem fire_z {w0 w : World} (h0 : Lib0 w0) (hb : Below w0.heap.size w0 w) (rb hk : Nat) (H M Pv : Value) (nm : ByteArray) (lim st : Int) (p : List (List ActV)) (hr : BlkL w rb [H, M, .int .i64 lim]) (hh : BlkL w hk [.string nm, Pv, .int .i64 st]) (hne : ¬ rb = hk) (hq : ProgQ w w.heap.size Pv p) (hp : ProgOk p) (c : Nat) (n : Int)
    (ho : noneV (runP p).out = (c, n)) (hc : c = 0) (hst : 0 ≤ st ∧ st ≤ 1000000) :
    Calls Tryd.prog 32 #[.pointer (some ⟨rb, 0, none⟩), .pointer (some ⟨hk, 0, none⟩)] w fun e w' => ∃ A cc, e = .returned (.agg #[.string nm, .slice A (runP p).st.marks.length cc, .int .u8 (c : Int), .int .i64 n, .bool (!decide (st < lim))]) ∧ OwnS w' w.heap.size 3 A (runP p).st.marks.length cc (FMk (runP p).st.marks) ∧ Off [hk] w w' ∧ BlkL w' hk [.string nm, Pv, .int .i64 st] := by
  have b1 := (Below.refl w.heap.size w).alloc (Nat.le_refl _) (.cells #[.string ⟨#[]⟩, .slice none 0 0, .int .u8 0, .int .i64 0, .bool false] 56)
  have k1 := BlkL.new w [.string ⟨#[]⟩, .slice none 0 0, .int .u8 0, .int .i64 0, .bool false] 56
  have hr1 := hr.below b1
  have hh1 := hh.below b1
  have hrun := run_ok h0 (hb.trans (b1.mono hb.size)) ((hq.below b1).mono b1.size) hp
  have hw := hh.lt
  have hw2 := hr.lt
  have HCC : Hid (((c : Int) != 0) = false) := Lib.hid (by simp; omega)
  clear hc
  obtain ⟨ml, hml⟩ : ∃ ml, (runP p).st.marks = ml := ⟨_, rfl⟩
  have p1 := hh1.cell 1 _ rfl
  have pl := hh1.lt
  have HRUN := Lib.hid hrun
  have HML := Lib.hid hml
  have HO := Lib.hid ho
  have HB1 := Lib.hid b1
  have K1 := Lib.hid k1
  have R1 := Lib.hid hr1
  have H1 := Lib.hid hh1
  clear b1 k1 hr1 hh1 hrun hml ho hr hh hq
  go_enter Tryd.func32, Tryd.ntmps32
  go_wp2_with fail
  with_reducible refine HRUN.out.mono ?_
  intro e w2 hE
  obtain ⟨A, cc, rfl, ho2, hb2⟩ := hE
  rw [HO.out, HML.out]
  rw [HML.out] at ho2
  have k2 := K1.out.below hb2
  have r2 := R1.out.below hb2
  have h2 := H1.out.below hb2
  have B2 := HB1.out.trans (hb2.mono HB1.out.size)
  have OS2 := Lib.hid ho2
  have b3 := (Below.refl w2.heap.size w2).alloc (Nat.le_refl _) (.cells #[.int .u8 (c : Int), .int .i64 n] 26)
  have K3 := Lib.hid (k2.below b3)
  have R3 := Lib.hid (r2.below b3)
  have H3 := Lib.hid (h2.below b3)
  have E3 := Lib.hid (BlkL.new w2 [.int .u8 (c : Int), .int .i64 n] 26)
  have B3 := Lib.hid (B2.trans (b3.mono B2.size))
  have O3 := Lib.hid (OS2.out.below b3)
  have HPN : Hid (∀ W, Calls Tryd.prog 42 #[.agg #[.int .u8 (c : Int), .int .i64 n]] W fun e w' => e = .returned (.bool ((c : Int) != 0)) ∧ Below W.heap.size W w') := Lib.hid (fun W => isPanic_any W c n)
  have HS2 : Hid (w.heap.size < w2.heap.size) := Lib.hid (by have := K1.out.lt; have := hb2.size; omega)
  clear k2 r2 h2 B2 b3 ho2 hb2 p1 pl
  go_wp2_with fail
  with_reducible refine (HPN.out _).mono ?_
  rintro e w4 ⟨rfl, hb4⟩
  rw [HCC.out]
  have k4 := K3.out.below hb4
  have r4 := R3.out.below hb4
  have h4 := H3.out.below hb4
  have e4 := E3.out.below hb4
  have eb1 : w.heap.size < w2.heap.size := HS2.out
  have hkn : ¬ w.heap.size = hk := by omega
  have nn1 : ¬ w.heap.size = w2.heap.size := by omega
  have nn2 : ¬ w2.heap.size = w.heap.size := by omega
  have hk2n : ¬ w2.heap.size = hk := by omega
  have q2 := h4.cell 2 _ rfl
  have qf := h4.froz 2 (by simp)
  have ql := h4.lt
  have h5 := h4
  have r5 := r4
  have k5 := k4
  have e5 := e4
  have B4 := B3.out.trans (hb4.mono B3.out.size)
  have OF5 : Off [hk] w w4 := Off.of_below B4
  have O5 := O3.out.below hb4
  clear k4 r4 h4 e4 B4 hb4
  go_upto_region 4 with (fail)
  revert h5 r5 k5 e5 OF5 O5
  generalize w4 = w5
  intro h5 r5 k5 e5 OF5 O5
  clear q2 qf ql
  have HK5 := Lib.hid k5
  have HH5 := Lib.hid h5
  have HOF := Lib.hid OF5
  have HO5 := Lib.hid O5
  have a0 := h5.cell 0 _ rfl
  have a2 := h5.cell 2 _ rfl
  have al := h5.lt
  have c2 := r5.cell 2 _ rfl
  have e0 := e5.cell 0 _ rfl
  have e1 := e5.cell 1 _ rfl
  have x0 := k5.cell 0 _ rfl
  have x1 := k5.cell 1 _ rfl
  have x2 := k5.cell 2 _ rfl
  have x3 := k5.cell 3 _ rfl
  have x4 := k5.cell 4 _ rfl
  have f0 := k5.froz 0 (by simp)
  have f1 := k5.froz 1 (by simp)
  have f2 := k5.froz 2 (by simp)
  have f3 := k5.froz 3 (by simp)
  have f4 := k5.froz 4 (by simp)
  have HON : Hid (Calls Tryd.prog 31 #[.pointer (some ⟨rb, 0, none⟩), .pointer (some ⟨hk, 0, none⟩)] w5.drew fun e w' => e = .returned (.bool (decide (st < lim))) ∧ w' = w5.drew.drew) := Lib.hid (isOn_c w5.drew rb hk lim st c2 a2)
  clear h5 r5 k5 e5 OF5 O5
  go_region_held3 (fun w' => w'.cell? ⟨hk, 0, none⟩ = some (.string nm) ∧ w'.cell? ⟨w2.heap.size, 0, none⟩ = some (.int .u8 (c : Int)) ∧ w'.cell? ⟨w2.heap.size, 1, none⟩ = some (.int .i64 n)) (go_keep)
    (first
      | (((with_reducible refine HON.out.mono ?_); rintro e w6 ⟨rfl, rfl⟩)))
  have kf := ((((((HK5.out.set 0 (.string nm) (by simp)).set 1 (.slice A ml.length cc) (by simp)).set 2 (.int .u8 (c : Int)) (by simp)).set 3 (.int .i64 n) (by simp)).set 4 (.bool (!decide (st < lim))) (by simp)).drew).drew
  have hf := ((((((HH5.out.other w.heap.size 0 (.string nm) (by omega)).other w.heap.size 1 (.slice A ml.length cc) (by omega)).other w.heap.size 2 (.int .u8 (c : Int)) (by omega)).other w.heap.size 3 (.int .i64 n) (by omega)).other w.heap.size 4 (.bool (!decide (st < lim))) (by omega)).drew).drew
  have o5 : Off [w.heap.size] w5 ((((((w5.setCell ⟨w.heap.size, 0, none⟩ (.string nm)).setCell ⟨w.heap.size, 1, none⟩ (.slice A ml.length cc)).setCell ⟨w.heap.size, 2, none⟩ (.int .u8 (c : Int))).setCell ⟨w.heap.size, 3, none⟩ (.int .i64 n)).setCell ⟨w.heap.size, 4, none⟩ (.bool (!decide (st < lim)))).drew.drew) := ((((((((Off.refl [w.heap.size] w5).setCell (by simp) _).setCell (by simp) _).setCell (by simp) _).setCell (by simp) _).setCell (by simp) _)).drew).drew
  have of : Off [hk] w ((((((w5.setCell ⟨w.heap.size, 0, none⟩ (.string nm)).setCell ⟨w.heap.size, 1, none⟩ (.slice A ml.length cc)).setCell ⟨w.heap.size, 2, none⟩ (.int .u8 (c : Int))).setCell ⟨w.heap.size, 3, none⟩ (.int .i64 n)).setCell ⟨w.heap.size, 4, none⟩ (.bool (!decide (st < lim)))).drew.drew) := (((((((HOF.out.setNew (p := ⟨w.heap.size, 0, none⟩) (Nat.le_refl _) _).setNew (p := ⟨w.heap.size, 1, none⟩) (Nat.le_refl _) _).setNew (p := ⟨w.heap.size, 2, none⟩) (Nat.le_refl _) _).setNew (p := ⟨w.heap.size, 3, none⟩) (Nat.le_refl _) _).setNew (p := ⟨w.heap.size, 4, none⟩) (Nat.le_refl _) _)).drew).drew
  have ow := (HO5.out.off o5 (by intro y hy hy2; have := (HO5.out.lt y hy).1; simp at this hy2; omega)).mono (B' := w.heap.size) (by simp)
  have KF := Lib.hid kf
  have HF := Lib.hid hf
  have OF := Lib.hid of
  have OW := Lib.hid ow
  clear kf hf o5 of ow
  go_wp2
  refine bodyPost_ret (v := .agg #[.string nm, .slice A ml.length cc, .int .u8 (c : Int), .int .i64 n, .bool (!decide (st < lim))]) (results_fire _ _ w.heap.size _ _ _ _ _ rfl KF.out) rfl ?_
  rw [HML.out]
  exact ⟨A, cc, rfl, OW.out, OF.out, HF.out⟩

/-- What goes out of a program. -/
def outV (p : List (List ActV)) : PanV := noneV (runP p).out
def badV (p : List (List ActV)) : Bool := decide ((outV p).1 ≠ 0)
def stN (p : List (List ActV)) (s : Int) : Int := if badV p = true then s + 1 else s
theorem fire_any {w0 w : World} (h0 : Lib0 w0) (hb : Below w0.heap.size w0 w) (rb hk : Nat) (H M Pv : Value) (nm : ByteArray) (lim st : Int) (p : List (List ActV)) (hr : BlkL w rb [H, M, .int .i64 lim]) (hh : BlkL w hk [.string nm, Pv, .int .i64 st]) (hne : ¬ rb = hk) (hq : ProgQ w w.heap.size Pv p) (hp : ProgOk p) (hst : 0 ≤ st ∧ st ≤ 1000000) :
    Calls Tryd.prog 32 #[.pointer (some ⟨rb, 0, none⟩), .pointer (some ⟨hk, 0, none⟩)] w fun e w' => ∃ A cc, e = .returned (.agg #[.string nm, .slice A (runP p).st.marks.length cc, .int .u8 ((outV p).1 : Int), .int .i64 (outV p).2, .bool (!decide (stN p st < lim))]) ∧ OwnS w' w.heap.size 3 A (runP p).st.marks.length cc (FMk (runP p).st.marks) ∧ Off [hk] w w' ∧ BlkL w' hk [.string nm, Pv, .int .i64 (stN p st)] := by
  obtain ⟨⟨c, n⟩, ho⟩ : ∃ o, noneV (runP p).out = o := ⟨_, rfl⟩
  have e1 : outV p = (c, n) := ho
  by_cases hc : c = 0
  · have e2 : stN p st = st := if_neg (by simp [badV, e1, hc])
    rw [e1, e2]
    exact fire_z h0 hb rb hk H M Pv nm lim st p hr hh hne hq hp c n ho hc hst
  · have e2 : stN p st = st + 1 := if_pos (by simp [badV, e1, hc])
    rw [e1, e2]
    exact fire_p h0 hb rb hk H M Pv nm lim st p hr hh hne hq hp c n ho hc hst
theorem RingX.strike {w w' : World} {B rb mb : Nat} {hA : Option Addr} {hc : Nat} {gs : List GH} {k : Int} {ns : List ByteArray} {st : Nat → Int} (h : RingX w B rb mb hA hc gs k ns st) {i : Nat} {g : GH} (hg : gs[i]? = some g) (s : Int) (ho : Off [g.hk] w w') (hb : BlkL w' g.hk [.string g.nm, g.Pv, .int .i64 s]) :
    RingX w' B rb mb hA hc gs k ns (fun j => if j = i then s else st j) := by
  have hgm := List.mem_of_getElem? hg
  have hs := (h.sep g hgm).2
  refine ⟨h.blk.off ho (by simp; exact (hs rb (by simp)).1), h.own.off ho (fun y hy e => (hs y (by simp [hy])).1 (by simpa using e)), h.map.off ho (by simp; exact (hs mb (by simp)).1), fun j x hx => ?_, h.low, h.sep, h.hh, h.nd⟩
  obtain ⟨h1, h2, h3, h4⟩ := h.hks j x hx
  have hpx : ProgI w' x.lo x.hi x.Pv x.p := h2.off h3 ho (fun y hy => by simp at hy; subst hy; exact h.hh x (List.mem_of_getElem? hx) g hgm)
  by_cases e : j = i
  · subst e
    rw [hg] at hx
    injection hx with hx
    subst hx
    simp only [if_pos]
    exact ⟨hb, hpx, Nat.le_trans h3 ho.size, h4⟩
  · simp only [if_neg e]
    refine ⟨h1.off ho (fun q => ?_), hpx, Nat.le_trans h3 ho.size, h4⟩
    simp at q
    have e1 : (gs.map GH.hk)[j]? = some x.hk := by rw [List.getElem?_map, hx]; rfl
    have e2 : (gs.map GH.hk)[i]? = some x.hk := by rw [List.getElem?_map, hg, q]; rfl
    exact e ((List.getElem?_inj ((List.getElem?_eq_some_iff.1 e1).1) h.nd).1 (e1.trans e2.symm))
end Go.Proofs.YtifldnkcheobhaaDoor
