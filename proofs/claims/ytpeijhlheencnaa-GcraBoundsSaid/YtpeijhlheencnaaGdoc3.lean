/- The document's Decide; DocDecide, DocLeft, DocIdle. -/
import Derived.Test.YtpeijhlheencnaaGdoc2
import Derived.Test.YtpeijhlheencnaaGlft
namespace Go.Proofs.Ytpeijhlheencnaa
open Go.RowKit
set_option maxRecDepth 100000
set_option linter.unusedVariables false

set_option maxHeartbeats 1600000 in
theorem decide5_y (w : World) (T Tau tat now n l t2 B r : Nat)
    (HG : Hid (∀ w, Calls Try.prog 47 #[.agg #[.int .i64 (T : Int), .int .i64 (Tau : Int)], .int .i64 (tat : Int), .int .i64 (now : Int), .int .i64 (n : Int)] w (ValEnd w (.bool true))))
    (HL : Hid (∀ w, Calls Try.prog 49 #[.agg #[.int .i64 (T : Int), .int .i64 (Tau : Int)], .int .i64 (t2 : Int), .int .i64 (now : Int)] w (ValEnd w (.int .i64 (l : Int)))))
    (hn : 0 < n)
    (hm : (if tat < now then (now : Int) else (tat : Int)) = (B : Int))
    (e1 : (n : Int) * (T : Int) = (r : Int))
    (e2 : (B : Int) + (r : Int) = (t2 : Int))
    (ht2 : t2 ≤ 4611686018427387903) :
    Calls Try.prog 30 #[.agg #[.int .i64 (T : Int), .int .i64 (Tau : Int)], .int .i64 (tat : Int), .int .i64 (now : Int), .int .i64 (n : Int)] w (ValEnd w (.agg #[.bool true, .int .i64 (t2 : Int), .int .i64 0, .int .i64 (l : Int)])) := by
  have b1 : (r : Int) ≤ 4611686018427387903 := by omega
  have b2 : (B : Int) ≤ 4611686018427387903 := by omega
  go_enter Try.func30, Try.ntmps30
  go_wp2_with fail
  with_reducible refine (HG.out _).mono ?_
  rintro e w1 ⟨rfl, hb⟩
  have Kl := ((BlkL.new _ [.int .i64 (T : Int), .int .i64 (Tau : Int)] 23).alloc _).below hb
  have Kr := (BlkL.new _ [.bool false, .int .i64 0, .int .i64 0, .int .i64 0] 38).below hb
  try simp only [World.size_alloc] at Kl Kr
  have HB1 := Lib.hid ((((Below.refl w.heap.size w).alloc (by simp <;> omega) _).alloc (by simp <;> omega) _).trans (hb.mono (by simp <;> omega)))
  clear hb
  have cl0 := Kl.cell 0 _ rfl
  have cl1 := Kl.cell 1 _ rfl
  have zl := Kl.lt
  have HKl1 := Lib.hid Kl
  have HKr1 := Lib.hid Kr
  clear Kl Kr
  have zz := HKr1.out.lt
  go_wp2_with fail
  with_reducible refine (HL.out _).mono ?_
  rintro e w2 ⟨rfl, hb⟩
  have Kl := (HKl1.out.alloc _).below hb
  have Kr := (HKr1.out.alloc _).below hb
  have Ka := (BlkL.new _ [.bool true, .int .i64 (t2 : Int), .int .i64 0, .int .i64 0] 38).below hb
  try simp only [World.size_alloc] at Ka
  have HB2 := Lib.hid ((HB1.out.alloc (by have := HB1.out.size; simp; omega) _).trans (hb.mono (by have := HB1.out.size; simp <;> omega)))
  clear hb cl0 cl1 zl
  have ca0 := Ka.cell 0 _ rfl
  have fa0 := Ka.froz 0 (by simp)
  have ca1 := Ka.cell 1 _ rfl
  have fa1 := Ka.froz 1 (by simp)
  have ca2 := Ka.cell 2 _ rfl
  have fa2 := Ka.froz 2 (by simp)
  have ca3 := Ka.cell 3 _ rfl
  have fa3 := Ka.froz 3 (by simp)
  have za := Ka.lt
  have cr0 := Kr.cell 0 _ rfl
  have fr0 := Kr.froz 0 (by simp)
  have cr1 := Kr.cell 1 _ rfl
  have fr1 := Kr.froz 1 (by simp)
  have cr2 := Kr.cell 2 _ rfl
  have fr2 := Kr.froz 2 (by simp)
  have cr3 := Kr.cell 3 _ rfl
  have fr3 := Kr.froz 3 (by simp)
  have zr := Kr.lt
  have HKl2 := Lib.hid Kl
  have HKr2 := Lib.hid Kr
  have HKa2 := Lib.hid Ka
  clear Kl Kr Ka
  go_wp2
  have bz := (HKr2.out.other w1.heap.size 3 (.int .i64 (l : Int)) (by omega)).put4 (.bool true) (.int .i64 (t2 : Int)) (.int .i64 0) (.int .i64 (l : Int))
  have z0 := bz.cell 0 _ rfl
  have z1 := bz.cell 1 _ rfl
  have z2 := bz.cell 2 _ rfl
  have z3 := bz.cell 3 _ rfl
  have hbz := below_put4 (HB2.out.setCell (p := ⟨w1.heap.size, 3, none⟩) (by show w.heap.size ≤ w1.heap.size; omega) (.int .i64 (l : Int))) (b := w.heap.size + 1) (by omega) (.bool true) (.int .i64 (t2 : Int)) (.int .i64 0) (.int .i64 (l : Int))
  clear bz ca0 fa0 ca1 fa1 ca2 fa2 ca3 fa3 za cr0 fr0 cr1 fr1 cr2 fr2 cr3 fr3 zr
  exact bodyPost_ret (v := .agg #[.bool true, .int .i64 (t2 : Int), .int .i64 0, .int .i64 (l : Int)]) (by simp [results, Try.results30, go_sem, z0, z1, z2, z3]) rfl ⟨rfl, hbz⟩


set_option maxHeartbeats 1600000 in
theorem decide5_z (w : World) (T Tau tat now n l : Nat)
    (HG : Hid (∀ w, Calls Try.prog 47 #[.agg #[.int .i64 (T : Int), .int .i64 (Tau : Int)], .int .i64 (tat : Int), .int .i64 (now : Int), .int .i64 (n : Int)] w (ValEnd w (.bool true))))
    (HL : Hid (∀ w, Calls Try.prog 49 #[.agg #[.int .i64 (T : Int), .int .i64 (Tau : Int)], .int .i64 (tat : Int), .int .i64 (now : Int)] w (ValEnd w (.int .i64 (l : Int)))))
    (hn : n = 0) :
    Calls Try.prog 30 #[.agg #[.int .i64 (T : Int), .int .i64 (Tau : Int)], .int .i64 (tat : Int), .int .i64 (now : Int), .int .i64 (n : Int)] w (ValEnd w (.agg #[.bool true, .int .i64 (tat : Int), .int .i64 0, .int .i64 (l : Int)])) := by
  have hn' : decide (0 < n) = false := by rw [hn]; rfl
  have hnz : ¬ 0 < n := by omega
  clear hn
  go_enter Try.func30, Try.ntmps30
  go_wp2_with fail
  with_reducible refine (HG.out _).mono ?_
  rintro e w1 ⟨rfl, hb⟩
  have Kl := ((BlkL.new _ [.int .i64 (T : Int), .int .i64 (Tau : Int)] 23).alloc _).below hb
  have Kr := (BlkL.new _ [.bool false, .int .i64 0, .int .i64 0, .int .i64 0] 38).below hb
  try simp only [World.size_alloc] at Kl Kr
  have HB1 := Lib.hid ((((Below.refl w.heap.size w).alloc (by simp <;> omega) _).alloc (by simp <;> omega) _).trans (hb.mono (by simp <;> omega)))
  clear hb
  have cl0 := Kl.cell 0 _ rfl
  have cl1 := Kl.cell 1 _ rfl
  have zl := Kl.lt
  have HKl1 := Lib.hid Kl
  have HKr1 := Lib.hid Kr
  clear Kl Kr
  have zz := HKr1.out.lt
  go_wp2_with fail
  with_reducible refine (HL.out _).mono ?_
  rintro e w2 ⟨rfl, hb⟩
  have Kl := (HKl1.out.alloc _).below hb
  have Kr := (HKr1.out.alloc _).below hb
  have Ka := (BlkL.new _ [.bool true, .int .i64 (tat : Int), .int .i64 0, .int .i64 0] 38).below hb
  try simp only [World.size_alloc] at Ka
  have HB2 := Lib.hid ((HB1.out.alloc (by have := HB1.out.size; simp; omega) _).trans (hb.mono (by have := HB1.out.size; simp <;> omega)))
  clear hb cl0 cl1 zl
  have ca0 := Ka.cell 0 _ rfl
  have fa0 := Ka.froz 0 (by simp)
  have ca1 := Ka.cell 1 _ rfl
  have fa1 := Ka.froz 1 (by simp)
  have ca2 := Ka.cell 2 _ rfl
  have fa2 := Ka.froz 2 (by simp)
  have ca3 := Ka.cell 3 _ rfl
  have fa3 := Ka.froz 3 (by simp)
  have za := Ka.lt
  have cr0 := Kr.cell 0 _ rfl
  have fr0 := Kr.froz 0 (by simp)
  have cr1 := Kr.cell 1 _ rfl
  have fr1 := Kr.froz 1 (by simp)
  have cr2 := Kr.cell 2 _ rfl
  have fr2 := Kr.froz 2 (by simp)
  have cr3 := Kr.cell 3 _ rfl
  have fr3 := Kr.froz 3 (by simp)
  have zr := Kr.lt
  have HKl2 := Lib.hid Kl
  have HKr2 := Lib.hid Kr
  have HKa2 := Lib.hid Ka
  clear Kl Kr Ka
  go_wp2
  have bz := (HKr2.out.other w1.heap.size 3 (.int .i64 (l : Int)) (by omega)).put4 (.bool true) (.int .i64 (tat : Int)) (.int .i64 0) (.int .i64 (l : Int))
  have z0 := bz.cell 0 _ rfl
  have z1 := bz.cell 1 _ rfl
  have z2 := bz.cell 2 _ rfl
  have z3 := bz.cell 3 _ rfl
  have hbz := below_put4 (HB2.out.setCell (p := ⟨w1.heap.size, 3, none⟩) (by show w.heap.size ≤ w1.heap.size; omega) (.int .i64 (l : Int))) (b := w.heap.size + 1) (by omega) (.bool true) (.int .i64 (tat : Int)) (.int .i64 0) (.int .i64 (l : Int))
  clear bz ca0 fa0 ca1 fa1 ca2 fa2 ca3 fa3 za cr0 fr0 cr1 fr1 cr2 fr2 cr3 fr3 zr
  exact bodyPost_ret (v := .agg #[.bool true, .int .i64 (tat : Int), .int .i64 0, .int .i64 (l : Int)]) (by simp [results, Try.results30, go_sem, z0, z1, z2, z3]) rfl ⟨rfl, hbz⟩


set_option maxHeartbeats 1600000 in
theorem decide5_n (w : World) (T Tau tat now n l x : Nat)
    (HG : Hid (∀ w, Calls Try.prog 47 #[.agg #[.int .i64 (T : Int), .int .i64 (Tau : Int)], .int .i64 (tat : Int), .int .i64 (now : Int), .int .i64 (n : Int)] w (ValEnd w (.bool false))))
    (HW : Hid (∀ w, Calls Try.prog 48 #[.agg #[.int .i64 (T : Int), .int .i64 (Tau : Int)], .int .i64 (tat : Int), .int .i64 (now : Int), .int .i64 (n : Int)] w (ValEnd w (.int .i64 (x : Int)))))
    (HL : Hid (∀ w, Calls Try.prog 49 #[.agg #[.int .i64 (T : Int), .int .i64 (Tau : Int)], .int .i64 (tat : Int), .int .i64 (now : Int)] w (ValEnd w (.int .i64 (l : Int))))) :
    Calls Try.prog 30 #[.agg #[.int .i64 (T : Int), .int .i64 (Tau : Int)], .int .i64 (tat : Int), .int .i64 (now : Int), .int .i64 (n : Int)] w (ValEnd w (.agg #[.bool false, .int .i64 (tat : Int), .int .i64 (x : Int), .int .i64 (l : Int)])) := by
  go_enter Try.func30, Try.ntmps30
  go_wp2_with fail
  with_reducible refine (HG.out _).mono ?_
  rintro e w1 ⟨rfl, hb⟩
  have Kl := ((BlkL.new _ [.int .i64 (T : Int), .int .i64 (Tau : Int)] 23).alloc _).below hb
  have Kr := (BlkL.new _ [.bool false, .int .i64 0, .int .i64 0, .int .i64 0] 38).below hb
  try simp only [World.size_alloc] at Kl Kr
  have HB1 := Lib.hid ((((Below.refl w.heap.size w).alloc (by simp <;> omega) _).alloc (by simp <;> omega) _).trans (hb.mono (by simp <;> omega)))
  clear hb
  have cl0 := Kl.cell 0 _ rfl
  have cl1 := Kl.cell 1 _ rfl
  have zl := Kl.lt
  have HKl1 := Lib.hid Kl
  have HKr1 := Lib.hid Kr
  clear Kl Kr
  have zz := HKr1.out.lt
  go_wp2_with fail
  with_reducible refine (HW.out _).mono ?_
  rintro e w2 ⟨rfl, hb⟩
  have Kl := (HKl1.out.alloc _).below hb
  have Kr := (HKr1.out.alloc _).below hb
  have Ka := (BlkL.new _ [.bool false, .int .i64 (tat : Int), .int .i64 0, .int .i64 0] 38).below hb
  try simp only [World.size_alloc] at Ka
  have HB2 := Lib.hid ((HB1.out.alloc (by have := HB1.out.size; simp; omega) _).trans (hb.mono (by have := HB1.out.size; simp <;> omega)))
  clear hb cl0 cl1 zl
  have cl0 := Kl.cell 0 _ rfl
  have cl1 := Kl.cell 1 _ rfl
  have zl := Kl.lt
  have ca0 := Ka.cell 0 _ rfl
  have fa0 := Ka.froz 0 (by simp)
  have ca1 := Ka.cell 1 _ rfl
  have fa1 := Ka.froz 1 (by simp)
  have ca2 := Ka.cell 2 _ rfl
  have fa2 := Ka.froz 2 (by simp)
  have ca3 := Ka.cell 3 _ rfl
  have fa3 := Ka.froz 3 (by simp)
  have za := Ka.lt
  have HKl2 := Lib.hid Kl
  have HKr2 := Lib.hid Kr
  have HKa2 := Lib.hid Ka
  clear Kl Kr Ka
  go_wp2_with fail
  with_reducible refine (HL.out _).mono ?_
  rintro e w3 ⟨rfl, hb⟩
  have Kl := (HKl2.out.other _ 2 (.int .i64 (x : Int)) (by omega)).below hb
  have Kr := (HKr2.out.other _ 2 (.int .i64 (x : Int)) (by omega)).below hb
  have Ka := (HKa2.out.set 2 (.int .i64 (x : Int)) (by simp)).below hb
  simp only [List.set_cons_zero, List.set_cons_succ] at Ka
  have HB3 := Lib.hid ((HB2.out.setCell (p := ⟨w1.heap.size, 2, none⟩) (by show w.heap.size ≤ w1.heap.size; omega) (.int .i64 (x : Int))).trans (hb.mono (by have := HB2.out.size; simp <;> omega)))
  clear hb cl0 cl1 zl ca0 fa0 ca1 fa1 ca2 fa2 ca3 fa3 za
  have ca0 := Ka.cell 0 _ rfl
  have fa0 := Ka.froz 0 (by simp)
  have ca1 := Ka.cell 1 _ rfl
  have fa1 := Ka.froz 1 (by simp)
  have ca2 := Ka.cell 2 _ rfl
  have fa2 := Ka.froz 2 (by simp)
  have ca3 := Ka.cell 3 _ rfl
  have fa3 := Ka.froz 3 (by simp)
  have za := Ka.lt
  have cr0 := Kr.cell 0 _ rfl
  have fr0 := Kr.froz 0 (by simp)
  have cr1 := Kr.cell 1 _ rfl
  have fr1 := Kr.froz 1 (by simp)
  have cr2 := Kr.cell 2 _ rfl
  have fr2 := Kr.froz 2 (by simp)
  have cr3 := Kr.cell 3 _ rfl
  have fr3 := Kr.froz 3 (by simp)
  have zr := Kr.lt
  have HKl3 := Lib.hid Kl
  have HKr3 := Lib.hid Kr
  have HKa3 := Lib.hid Ka
  clear Kl Kr Ka
  go_wp2
  have bz := (HKr3.out.other w1.heap.size 3 (.int .i64 (l : Int)) (by omega)).put4 (.bool false) (.int .i64 (tat : Int)) (.int .i64 (x : Int)) (.int .i64 (l : Int))
  have z0 := bz.cell 0 _ rfl
  have z1 := bz.cell 1 _ rfl
  have z2 := bz.cell 2 _ rfl
  have z3 := bz.cell 3 _ rfl
  have hbz := below_put4 (HB3.out.setCell (p := ⟨w1.heap.size, 3, none⟩) (by show w.heap.size ≤ w1.heap.size; omega) (.int .i64 (l : Int))) (b := w.heap.size + 1) (by omega) (.bool false) (.int .i64 (tat : Int)) (.int .i64 (x : Int)) (.int .i64 (l : Int))
  clear bz ca0 fa0 ca1 fa1 ca2 fa2 ca3 fa3 za cr0 fr0 cr1 fr1 cr2 fr2 cr3 fr3 zr
  exact bodyPost_ret (v := .agg #[.bool false, .int .i64 (tat : Int), .int .i64 (x : Int), .int .i64 (l : Int)]) (by simp [results, Try.results30, go_sem, z0, z1, z2, z3]) rfl ⟨rfl, hbz⟩


theorem decide5_any (w : World) {T Tau tat now n : Nat} (h1 : 1 ≤ T) (h2 : T ≤ 4611686018427387903) (h3 : Tau ≤ 4611686018427387903) (h4 : tat ≤ 4611686018427387903) (h5 : now ≤ 4611686018427387903) (h6 : n ≤ 4611686018427387903) :
    Calls Try.prog 30 #[.agg #[.int .i64 (T : Int), .int .i64 (Tau : Int)], .int .i64 (tat : Int), .int .i64 (now : Int), .int .i64 (n : Int)] w (ValEnd w (decV T Tau tat now n)) := by
  have HG := fun w => granted5_any w (n := n) h1 h2 h3 h4 h5 h6
  have ht := tatV_le (n := n) (Tau := Tau) h1 h4 h5
  have HL := fun w => left5_any w (Tau := Tau) h1 h2 h3 ht h5
  unfold decV
  rcases hg : grB T Tau tat now n with _ | _
  · have HW := fun w => wait5_any w h1 h2 h3 h4 h5 h6 hg
    have e1 : tatV T Tau tat now n = tat := tatV_no hg
    have e2 : wtV T Tau tat now n = waitV T Tau tat now n := by unfold wtV; rw [hg]; rfl
    rw [hg] at HG
    rw [e1] at HL ⊢
    rw [e2]
    exact decide5_n w T Tau tat now n _ _ (Lib.hid HG) (Lib.hid HW) (Lib.hid HL)
  · have e2 : wtV T Tau tat now n = 0 := by unfold wtV; rw [hg]; rfl
    rw [hg] at HG
    rw [e2]
    rcases Nat.eq_zero_or_pos n with hn | hn
    · have e1 : tatV T Tau tat now n = tat := by rw [hn]; exact tatV_zero _ _ _ _
      rw [e1] at HL ⊢
      exact decide5_z w T Tau tat now n _ (Lib.hid HG) (Lib.hid HL) hn
    · have e1 := tatV_pos hg hn
      have e3 : (if tat < now then (now : Int) else (tat : Int)) = ((max tat now : Nat) : Int) := by split <;> omega
      have e4 : (n : Int) * (T : Int) = ((n * T : Nat) : Int) := by push_cast; rfl
      have e5 : ((max tat now : Nat) : Int) + ((n * T : Nat) : Int) = (tatV T Tau tat now n : Int) := by rw [e1]; push_cast; rfl
      exact decide5_y w T Tau tat now n _ _ _ _ (Lib.hid HG) (Lib.hid HL) hn e3 e4 e5 ht

/-- Limits and ticks? -/
def rightB (T Tau tat now n : Int) : Bool := decide (chkV T Tau [tat, now, n] = 0)
theorem rightB_of {T Tau tat now n : Int} : rightB T Tau tat now n = (decide (checkV T Tau = 0) && isTick tat && isTick now && isTick n) := by
  unfold rightB chkV
  have h := checkV_cases T Tau
  cases h1 : isTick tat <;> cases h2 : isTick now <;> cases h3 : isTick n <;> simp [h1, h2, h3]
set_option maxHeartbeats 1600000 in
theorem right5_any (w : World) (T Tau tat now n : Int) :
    Calls Try.prog 29 #[.agg #[.int .i64 T, .int .i64 Tau], .int .i64 tat, .int .i64 now, .int .i64 n] w (ValEnd w (.bool (rightB T Tau tat now n))) := by
  have HC := Lib.hid (fun w => check4_any w T Tau)
  have HF1 := Lib.hid (fun w => rform_any w tat)
  have HF2 := Lib.hid (fun w => rform_any w now)
  have HF3 := Lib.hid (fun w => rform_any w n)
  rw [rightB_of]
  generalize isTick n = b3 at *
  rcases checkV_cases T Tau with hc | hc
  · rw [hc] at HC ⊢
    rcases ht : isTick tat with _ | _
    · rw [ht] at HF1
      clear hc ht
      go_enter Try.func29, Try.ntmps29
      go_wp2_with fail
      with_reducible refine (HC.out _).mono ?_
      rintro e w1 ⟨rfl, hb⟩
      have HB1 := Lib.hid (((Below.refl w.heap.size w).alloc (Nat.le_refl _) _).trans (hb.mono (by simp)))
      clear hb
      go_wp2_with fail
      with_reducible refine (HF1.out _).mono ?_
      rintro e w2 ⟨rfl, rfl⟩
      go_wp2
      go_ret
      exact ⟨rfl, HB1.out⟩
    · rw [ht] at HF1
      rcases hu : isTick now with _ | _
      · rw [hu] at HF2
        clear hc ht hu
        go_enter Try.func29, Try.ntmps29
        go_wp2_with fail
        with_reducible refine (HC.out _).mono ?_
        rintro e w1 ⟨rfl, hb⟩
        have HB1 := Lib.hid (((Below.refl w.heap.size w).alloc (Nat.le_refl _) _).trans (hb.mono (by simp)))
        clear hb
        go_wp2_with fail
        with_reducible refine (HF1.out _).mono ?_
        rintro e w2 ⟨rfl, rfl⟩
        go_wp2_with fail
        with_reducible refine (HF2.out _).mono ?_
        rintro e w2 ⟨rfl, rfl⟩
        go_wp2
        go_ret
        exact ⟨rfl, HB1.out⟩
      · rw [hu] at HF2
        clear hc ht hu
        go_enter Try.func29, Try.ntmps29
        go_wp2_with fail
        with_reducible refine (HC.out _).mono ?_
        rintro e w1 ⟨rfl, hb⟩
        have HB1 := Lib.hid (((Below.refl w.heap.size w).alloc (Nat.le_refl _) _).trans (hb.mono (by simp)))
        clear hb
        go_wp2_with fail
        with_reducible refine (HF1.out _).mono ?_
        rintro e w2 ⟨rfl, rfl⟩
        go_wp2_with fail
        with_reducible refine (HF2.out _).mono ?_
        rintro e w2 ⟨rfl, rfl⟩
        go_wp2_with fail
        with_reducible refine (HF3.out _).mono ?_
        rintro e w2 ⟨rfl, rfl⟩
        go_wp2
        go_ret
        exact ⟨rfl, HB1.out⟩
  · rw [hc] at HC ⊢
    clear hc
    go_enter Try.func29, Try.ntmps29
    go_wp2_with fail
    with_reducible refine (HC.out _).mono ?_
    rintro e w1 ⟨rfl, hb⟩
    have HB1 := Lib.hid (((Below.refl w.heap.size w).alloc (Nat.le_refl _) _).trans (hb.mono (by simp)))
    clear hb
    go_wp2
    go_ret
    exact ⟨rfl, HB1.out⟩
end Go.Proofs.Ytpeijhlheencnaa
