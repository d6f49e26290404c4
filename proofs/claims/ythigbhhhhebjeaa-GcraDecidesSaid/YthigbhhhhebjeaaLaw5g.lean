/- DocDecide, DocLeft, DocIdle; the laws GcraDecides, GcraLefts: their walks. -/
import Derived.Test.YthigbhhhhebjeaaGdoc3
import Derived.Test.YthigbhhhhebjeaaLaw5d
namespace Go.Proofs.Ythigbhhhhebjeaa
open Go.RowKit
set_option maxRecDepth 100000
set_option linter.unusedVariables false

set_option maxHeartbeats 1600000 in
theorem docdec_no (w : World) (T Tau tat now n : Int)
    (HR : Hid (∀ w, Calls Try.prog 52 #[.agg #[.int .i64 T, .int .i64 Tau], .int .i64 tat, .int .i64 now, .int .i64 n] w (ValEnd w (.bool false)))) :
    Calls Try.prog 16 #[.agg #[.int .i64 T, .int .i64 Tau], .int .i64 tat, .int .i64 now, .int .i64 n] w (ValEnd w (.tuple #[.agg #[.bool false, .int .i64 0, .int .i64 0, .int .i64 0], .int .i64 1])) := by
  go_enter Try.func16, Try.ntmps16
  go_wp2_with fail
  with_reducible refine (HR.out _).mono ?_
  rintro e w1 ⟨rfl, hb⟩
  have Kl := ((BlkL.new _ [.int .i64 T, .int .i64 Tau] 23).alloc _).below hb
  have Kr := (BlkL.new _ [.bool false, .int .i64 0, .int .i64 0, .int .i64 0] 29).below hb
  try simp only [World.size_alloc] at Kl Kr
  have HB1 := Lib.hid ((((Below.refl w.heap.size w).alloc (by simp <;> omega) _).alloc (by simp <;> omega) _).trans (hb.mono (by simp <;> omega)))
  clear hb
  have cl0 := Kl.cell 0 _ rfl
  have cl1 := Kl.cell 1 _ rfl
  have zl := Kl.lt
  have cr0 := Kr.cell 0 _ rfl
  have fr0 := Kr.froz 0 (by simp)
  have cr1 := Kr.cell 1 _ rfl
  have fr1 := Kr.froz 1 (by simp)
  have cr2 := Kr.cell 2 _ rfl
  have fr2 := Kr.froz 2 (by simp)
  have cr3 := Kr.cell 3 _ rfl
  have fr3 := Kr.froz 3 (by simp)
  have zr := Kr.lt
  have HKl1 := Lib.hid Kl
  have HKr1 := Lib.hid Kr
  clear Kl Kr
  go_wp2
  have bz := HKr1.out.put4 (.bool false) (.int .i64 0) (.int .i64 0) (.int .i64 0)
  have z0 := bz.cell 0 _ rfl
  have z1 := bz.cell 1 _ rfl
  have z2 := bz.cell 2 _ rfl
  have z3 := bz.cell 3 _ rfl
  have hbz := below_put4 HB1.out (b := w.heap.size + 1) (by omega) (.bool false) (.int .i64 0) (.int .i64 0) (.int .i64 0)
  clear bz cl0 cl1 zl cr0 fr0 cr1 fr1 cr2 fr2 cr3 fr3 zr
  exact bodyPost_ret (v := .tuple #[.agg #[.bool false, .int .i64 0, .int .i64 0, .int .i64 0], .int .i64 1]) (by simp [results, Try.results16, go_sem, z0, z1, z2, z3]) rfl ⟨rfl, hbz⟩


set_option maxHeartbeats 1600000 in
theorem docdec_ok (w : World) (T Tau tat now n : Int) (g : Bool) (t x l : Int)
    (HR : Hid (∀ w, Calls Try.prog 52 #[.agg #[.int .i64 T, .int .i64 Tau], .int .i64 tat, .int .i64 now, .int .i64 n] w (ValEnd w (.bool true))))
    (HD : Hid (∀ w, Calls Try.prog 53 #[.agg #[.int .i64 T, .int .i64 Tau], .int .i64 tat, .int .i64 now, .int .i64 n] w (ValEnd w (.agg #[.bool g, .int .i64 t, .int .i64 x, .int .i64 l])))) :
    Calls Try.prog 16 #[.agg #[.int .i64 T, .int .i64 Tau], .int .i64 tat, .int .i64 now, .int .i64 n] w (ValEnd w (.tuple #[.agg #[.bool g, .int .i64 t, .int .i64 x, .int .i64 l], .int .i64 0])) := by
  go_enter Try.func16, Try.ntmps16
  go_wp2_with fail
  with_reducible refine (HR.out _).mono ?_
  rintro e w1 ⟨rfl, hb⟩
  have Kl := ((BlkL.new _ [.int .i64 T, .int .i64 Tau] 23).alloc _).below hb
  have Kr := (BlkL.new _ [.bool false, .int .i64 0, .int .i64 0, .int .i64 0] 29).below hb
  try simp only [World.size_alloc] at Kl Kr
  have HB1 := Lib.hid ((((Below.refl w.heap.size w).alloc (by simp <;> omega) _).alloc (by simp <;> omega) _).trans (hb.mono (by simp <;> omega)))
  clear hb
  have cl0 := Kl.cell 0 _ rfl
  have cl1 := Kl.cell 1 _ rfl
  have zl := Kl.lt
  have cr0 := Kr.cell 0 _ rfl
  have fr0 := Kr.froz 0 (by simp)
  have cr1 := Kr.cell 1 _ rfl
  have fr1 := Kr.froz 1 (by simp)
  have cr2 := Kr.cell 2 _ rfl
  have fr2 := Kr.froz 2 (by simp)
  have cr3 := Kr.cell 3 _ rfl
  have fr3 := Kr.froz 3 (by simp)
  have zr := Kr.lt
  have HKl1 := Lib.hid Kl
  have HKr1 := Lib.hid Kr
  clear Kl Kr
  go_wp2_with fail
  with_reducible refine (HD.out _).mono ?_
  rintro e w2 ⟨rfl, hb⟩
  have Kl := HKl1.out.below hb
  have Kr := HKr1.out.below hb
  have HB2 := Lib.hid (HB1.out.trans (hb.mono (by have := HB1.out.size; simp <;> omega)))
  clear hb cl0 cl1 zl cr0 fr0 cr1 fr1 cr2 fr2 cr3 fr3 zr
  have cr0 := Kr.cell 0 _ rfl
  have fr0 := Kr.froz 0 (by simp)
  have cr1 := Kr.cell 1 _ rfl
  have fr1 := Kr.froz 1 (by simp)
  have cr2 := Kr.cell 2 _ rfl
  have fr2 := Kr.froz 2 (by simp)
  have cr3 := Kr.cell 3 _ rfl
  have fr3 := Kr.froz 3 (by simp)
  have zr := Kr.lt
  have HKl2 := Lib.hid Kl
  have HKr2 := Lib.hid Kr
  clear Kl Kr
  go_wp2
  have bz := HKr2.out.put4 (.bool g) (.int .i64 t) (.int .i64 x) (.int .i64 l)
  have z0 := bz.cell 0 _ rfl
  have z1 := bz.cell 1 _ rfl
  have z2 := bz.cell 2 _ rfl
  have z3 := bz.cell 3 _ rfl
  have hbz := below_put4 HB2.out (b := w.heap.size + 1) (by omega) (.bool g) (.int .i64 t) (.int .i64 x) (.int .i64 l)
  clear bz cr0 fr0 cr1 fr1 cr2 fr2 cr3 fr3 zr
  exact bodyPost_ret (v := .tuple #[.agg #[.bool g, .int .i64 t, .int .i64 x, .int .i64 l], .int .i64 0]) (by simp [results, Try.results16, go_sem, z0, z1, z2, z3]) rfl ⟨rfl, hbz⟩


set_option maxHeartbeats 800000 in
theorem docleft_no (w : World) (T Tau tat now : Int)
    (HR : Hid (∀ w, Calls Try.prog 52 #[.agg #[.int .i64 T, .int .i64 Tau], .int .i64 tat, .int .i64 now, .int .i64 0] w (ValEnd w (.bool false)))) :
    Calls Try.prog 20 #[.agg #[.int .i64 T, .int .i64 Tau], .int .i64 tat, .int .i64 now] w (ValEnd w (.tuple #[.int .i64 0, .int .i64 1])) := by
  go_enter Try.func20, Try.ntmps20
  go_wp2_with fail
  with_reducible refine (HR.out _).mono ?_
  rintro e w1 ⟨rfl, hb⟩
  have Kl := (BlkL.new _ [.int .i64 T, .int .i64 Tau] 23).below hb
  try simp only [World.size_alloc] at Kl
  have HB1 := Lib.hid (((Below.refl w.heap.size w).alloc (by simp <;> omega) _).trans (hb.mono (by simp <;> omega)))
  clear hb
  have cl0 := Kl.cell 0 _ rfl
  have cl1 := Kl.cell 1 _ rfl
  have zl := Kl.lt
  have HKl1 := Lib.hid Kl
  clear Kl
  go_wp2
  go_ret2
  exact ⟨rfl, HB1.out⟩


set_option maxHeartbeats 800000 in
theorem docleft_ok (w : World) (T Tau tat now : Int) (l : Int)
    (HR : Hid (∀ w, Calls Try.prog 52 #[.agg #[.int .i64 T, .int .i64 Tau], .int .i64 tat, .int .i64 now, .int .i64 0] w (ValEnd w (.bool true))))
    (HD : Hid (∀ w, Calls Try.prog 55 #[.agg #[.int .i64 T, .int .i64 Tau], .int .i64 tat, .int .i64 now] w (ValEnd w (.int .i64 l)))) :
    Calls Try.prog 20 #[.agg #[.int .i64 T, .int .i64 Tau], .int .i64 tat, .int .i64 now] w (ValEnd w (.tuple #[.int .i64 l, .int .i64 0])) := by
  go_enter Try.func20, Try.ntmps20
  go_wp2_with fail
  with_reducible refine (HR.out _).mono ?_
  rintro e w1 ⟨rfl, hb⟩
  have Kl := (BlkL.new _ [.int .i64 T, .int .i64 Tau] 23).below hb
  try simp only [World.size_alloc] at Kl
  have HB1 := Lib.hid (((Below.refl w.heap.size w).alloc (by simp <;> omega) _).trans (hb.mono (by simp <;> omega)))
  clear hb
  have cl0 := Kl.cell 0 _ rfl
  have cl1 := Kl.cell 1 _ rfl
  have zl := Kl.lt
  have HKl1 := Lib.hid Kl
  clear Kl
  go_wp2_with fail
  with_reducible refine (HD.out _).mono ?_
  rintro e w2 ⟨rfl, hb⟩
  have Kl := HKl1.out.below hb
  have HB2 := Lib.hid (HB1.out.trans (hb.mono (by have := HB1.out.size; simp <;> omega)))
  clear hb cl0 cl1 zl
  have HKl2 := Lib.hid Kl
  clear Kl
  go_wp2
  go_ret2
  exact ⟨rfl, HB2.out⟩


theorem ddecV_shape (T Tau tat now n : Int) : ∃ (g : Bool) (t x l e : Int), (e = 0 ∨ e = 1) ∧ ddecV T Tau tat now n = .tuple #[.agg #[.bool g, .int .i64 t, .int .i64 x, .int .i64 l], .int .i64 e] := by
  unfold ddecV; split
  · exact ⟨_, _, _, _, 0, .inl rfl, rfl⟩
  · exact ⟨_, _, _, _, 1, .inr rfl, rfl⟩
theorem docdec_any (w : World) (T Tau tat now n : Int) :
    Calls Try.prog 16 #[.agg #[.int .i64 T, .int .i64 Tau], .int .i64 tat, .int .i64 now, .int .i64 n] w (ValEnd w (ddecV T Tau tat now n)) := by
  have HR := fun w => right5_any w T Tau tat now n
  unfold rightB at HR
  unfold ddecV
  rcases chkV_cases T Tau [tat, now, n] with hc | hc
  · rw [if_pos hc]
    rw [hc] at HR
    have hz := chkV_zero hc
    have q1 := hz.2.2.2.2 tat (by simp)
    have q2 := hz.2.2.2.2 now (by simp)
    have q3 := hz.2.2.2.2 n (by simp)
    have h := fun w => decide5_any w (T := T.toNat) (Tau := Tau.toNat) (tat := tat.toNat) (now := now.toNat) (n := n.toNat) (by omega) (by omega) (by omega) (by omega) (by omega) (by omega)
    rw [Int.toNat_of_nonneg (by omega), Int.toNat_of_nonneg (by omega), Int.toNat_of_nonneg (by omega), Int.toNat_of_nonneg (by omega), Int.toNat_of_nonneg (by omega)] at h
    exact docdec_ok w T Tau tat now n _ _ _ _ (Lib.hid HR) (Lib.hid h)
  · rw [if_neg (by omega)]
    rw [hc] at HR
    exact docdec_no w T Tau tat now n (Lib.hid HR)
theorem chkV_two (T Tau tat now : Int) : chkV T Tau [tat, now, 0] = chkV T Tau [tat, now] := by
  unfold chkV
  have : isTick 0 = true := by decide
  simp [this]
theorem dleftV_shape (T Tau tat now : Int) : ∃ (l e : Int), (e = 0 ∨ e = 1) ∧ dleftV T Tau tat now = .tuple #[.int .i64 l, .int .i64 e] := by
  unfold dleftV; split
  · exact ⟨_, 0, .inl rfl, rfl⟩
  · exact ⟨_, 1, .inr rfl, rfl⟩
theorem docleft_any (w : World) (T Tau tat now : Int) :
    Calls Try.prog 20 #[.agg #[.int .i64 T, .int .i64 Tau], .int .i64 tat, .int .i64 now] w (ValEnd w (dleftV T Tau tat now)) := by
  have HR := fun w => right5_any w T Tau tat now 0
  unfold rightB at HR
  rw [chkV_two] at HR
  unfold dleftV
  rcases chkV_cases T Tau [tat, now] with hc | hc
  · rw [if_pos hc]
    rw [hc] at HR
    have hz := chkV_zero hc
    have q1 := hz.2.2.2.2 tat (by simp)
    have q2 := hz.2.2.2.2 now (by simp)
    have h := fun w => left5_any w (T := T.toNat) (Tau := Tau.toNat) (tat := tat.toNat) (now := now.toNat) (by omega) (by omega) (by omega) (by omega) (by omega)
    rw [Int.toNat_of_nonneg (by omega), Int.toNat_of_nonneg (by omega), Int.toNat_of_nonneg (by omega), Int.toNat_of_nonneg (by omega)] at h
    exact docleft_ok w T Tau tat now _ (Lib.hid HR) (Lib.hid h)
  · rw [if_neg (by omega)]
    rw [hc] at HR
    exact docleft_no w T Tau tat now (Lib.hid HR)
theorem didleV_shape (tat now : Int) : ∃ (i : Bool) (e : Int), (e = 0 ∨ e = 1) ∧ didleV tat now = .tuple #[.bool i, .int .i64 e] := by
  unfold didleV; split
  · exact ⟨_, 0, .inl rfl, rfl⟩
  · exact ⟨_, 1, .inr rfl, rfl⟩
set_option maxHeartbeats 800000 in
theorem docidle_any (w : World) (tat now : Int) : Calls Try.prog 22 #[.int .i64 tat, .int .i64 now] w (ValEnd w (didleV tat now)) := by
  have HF1 := Lib.hid (fun w => rform_any w tat)
  have HF2 := Lib.hid (fun w => rform_any w now)
  have HV : Hid (didleV tat now = if isTick tat && isTick now then .tuple #[.bool (decide (tat ≤ now)), .int .i64 0] else .tuple #[.bool false, .int .i64 1]) := Lib.hid rfl
  rcases ht : isTick tat with _ | _
  · rw [ht] at HF1 HV
    clear ht
    go_enter Try.func22, Try.ntmps22
    go_wp2_with fail
    with_reducible refine (HF1.out _).mono ?_
    rintro e w2 ⟨rfl, rfl⟩
    go_wp2
    go_ret2
    exact ⟨by rw [HV.out]; rfl, Below.refl _ _⟩
  · rw [ht] at HF1 HV
    rcases hu : isTick now with _ | _
    all_goals
      rw [hu] at HF2 HV
      clear ht hu
      go_enter Try.func22, Try.ntmps22
      go_wp2_with fail
      with_reducible refine (HF1.out _).mono ?_
      rintro e w2 ⟨rfl, rfl⟩
      go_wp2_with fail
      with_reducible refine (HF2.out _).mono ?_
      rintro e w2 ⟨rfl, rfl⟩
      go_wp2
      go_ret2
      exact ⟨by rw [HV.out]; rfl, Below.refl _ _⟩

set_option maxHeartbeats 1600000 in
theorem gcraDecides_w (w : World) (T Tau tat now n : Int) (g : Bool) (t x l e : Int)
    (HD : Hid (∀ w, Calls Try.prog 15 #[.agg #[.int .i64 T, .int .i64 Tau], .int .i64 tat, .int .i64 now, .int .i64 n] w (ValEnd w (.tuple #[.agg #[.bool g, .int .i64 t, .int .i64 x, .int .i64 l], .int .i64 e]))))
    (HR : Hid (∀ w, Calls Try.prog 16 #[.agg #[.int .i64 T, .int .i64 Tau], .int .i64 tat, .int .i64 now, .int .i64 n] w (ValEnd w (.tuple #[.agg #[.bool g, .int .i64 t, .int .i64 x, .int .i64 l], .int .i64 e]))))
    (HA : Hid (∀ w, Calls Try.prog 17 #[] w (ValEnd w (.bool true))))
    (HS : Hid (∀ w, Calls Try.prog 18 #[.agg #[.bool g, .int .i64 t, .int .i64 x, .int .i64 l], .agg #[.bool g, .int .i64 t, .int .i64 x, .int .i64 l]] w (ValEnd w (.bool true)))) :
    Calls Try.prog 3 #[.agg #[.int .i64 T, .int .i64 Tau], .int .i64 tat, .int .i64 now, .int .i64 n] w (ValEnd w (.bool true)) := by
  go_enter Try.func3, Try.ntmps3
  go_wp2_with fail
  with_reducible refine (HD.out _).mono ?_
  rintro e w1 ⟨rfl, hb⟩
  have Kl := (BlkL.new _ [.int .i64 T, .int .i64 Tau] 23).below hb
  try simp only [World.size_alloc] at Kl
  have HB1 := Lib.hid (((Below.refl w.heap.size w).alloc (by simp <;> omega) _).trans (hb.mono (by simp <;> omega)))
  clear hb
  have cl0 := Kl.cell 0 _ rfl
  have cl1 := Kl.cell 1 _ rfl
  have zl := Kl.lt
  have HKl1 := Lib.hid Kl
  clear Kl
  go_wp2_with fail
  with_reducible refine (HR.out _).mono ?_
  rintro e w2 ⟨rfl, hb⟩
  have Kl := (HKl1.out.alloc _).below hb
  have Ka := (BlkL.new _ [.bool g, .int .i64 t, .int .i64 x, .int .i64 l] 25).below hb
  try simp only [World.size_alloc] at Ka
  have HB2 := Lib.hid ((HB1.out.alloc (by have := HB1.out.size; simp; omega) _).trans (hb.mono (by have := HB1.out.size; simp <;> omega)))
  clear hb cl0 cl1 zl
  have HKl2 := Lib.hid Kl
  have HKa2 := Lib.hid Ka
  clear Kl Ka
  go_wp2_with fail
  with_reducible refine (HA.out _).mono ?_
  rintro e w3 ⟨rfl, hb⟩
  have Kl := (HKl2.out.alloc _).below hb
  have Ka := (HKa2.out.alloc _).below hb
  have Kb := (BlkL.new _ [.bool g, .int .i64 t, .int .i64 x, .int .i64 l] 29).below hb
  try simp only [World.size_alloc] at Kb
  have HB3 := Lib.hid ((HB2.out.alloc (by have := HB2.out.size; simp; omega) _).trans (hb.mono (by have := HB2.out.size; simp <;> omega)))
  clear hb
  have ca0 := Ka.cell 0 _ rfl
  have ca1 := Ka.cell 1 _ rfl
  have ca2 := Ka.cell 2 _ rfl
  have ca3 := Ka.cell 3 _ rfl
  have za := Ka.lt
  have cb0 := Kb.cell 0 _ rfl
  have cb1 := Kb.cell 1 _ rfl
  have cb2 := Kb.cell 2 _ rfl
  have cb3 := Kb.cell 3 _ rfl
  have zb := Kb.lt
  have HKl3 := Lib.hid Kl
  have HKa3 := Lib.hid Ka
  have HKb3 := Lib.hid Kb
  clear Kl Ka Kb
  go_wp2_with fail
  with_reducible refine (HS.out _).mono ?_
  rintro e w4 ⟨rfl, hb⟩
  have Kl := HKl3.out.below hb
  have Ka := HKa3.out.below hb
  have Kb := HKb3.out.below hb
  have HB4 := Lib.hid (HB3.out.trans (hb.mono (by have := HB3.out.size; simp <;> omega)))
  clear hb ca0 ca1 ca2 ca3 za cb0 cb1 cb2 cb3 zb
  have HKl4 := Lib.hid Kl
  have HKa4 := Lib.hid Ka
  have HKb4 := Lib.hid Kb
  clear Kl Ka Kb
  go_wp2
  go_ret
  exact ⟨rfl, HB4.out⟩


set_option maxHeartbeats 1600000 in
theorem gcraLefts_w (w : World) (T Tau tat now : Int) (i : Bool) (l e f : Int) (he : e = 0 ∨ e = 1) (hf : f = 0 ∨ f = 1)
    (HL : Hid (∀ w, Calls Try.prog 19 #[.agg #[.int .i64 T, .int .i64 Tau], .int .i64 tat, .int .i64 now] w (ValEnd w (.tuple #[.int .i64 l, .int .i64 e]))))
    (HM : Hid (∀ w, Calls Try.prog 20 #[.agg #[.int .i64 T, .int .i64 Tau], .int .i64 tat, .int .i64 now] w (ValEnd w (.tuple #[.int .i64 l, .int .i64 e]))))
    (HI : Hid (∀ w, Calls Try.prog 21 #[.int .i64 tat, .int .i64 now] w (ValEnd w (.tuple #[.bool i, .int .i64 f]))))
    (HJ : Hid (∀ w, Calls Try.prog 22 #[.int .i64 tat, .int .i64 now] w (ValEnd w (.tuple #[.bool i, .int .i64 f]))))
    (HA : Hid (∀ w, Calls Try.prog 17 #[] w (ValEnd w (.bool true)))) :
    Calls Try.prog 4 #[.agg #[.int .i64 T, .int .i64 Tau], .int .i64 tat, .int .i64 now] w (ValEnd w (.bool true)) := by
  have hi : (i == i) = true := by simp
  rcases he with rfl | rfl <;> rcases hf with rfl | rfl
  all_goals
    go_enter Try.func4, Try.ntmps4
    go_wp2_with fail
    with_reducible refine (HL.out _).mono ?_
    rintro e w1 ⟨rfl, hb⟩
    have Kl := (BlkL.new _ [.int .i64 T, .int .i64 Tau] 23).below hb
    try simp only [World.size_alloc] at Kl
    have HB1 := Lib.hid (((Below.refl w.heap.size w).alloc (by simp <;> omega) _).trans (hb.mono (by simp <;> omega)))
    clear hb
    have cl0 := Kl.cell 0 _ rfl
    have cl1 := Kl.cell 1 _ rfl
    have zl := Kl.lt
    have HKl1 := Lib.hid Kl
    clear Kl
    go_wp2_with fail
    with_reducible refine (HM.out _).mono ?_
    rintro e w2 ⟨rfl, hb⟩
    have Kl := HKl1.out.below hb
    have HB2 := Lib.hid (HB1.out.trans (hb.mono (by have := HB1.out.size; simp <;> omega)))
    clear hb cl0 cl1 zl
    have HKl2 := Lib.hid Kl
    clear Kl
    go_wp2_with fail
    with_reducible refine (HI.out _).mono ?_
    rintro e w3 ⟨rfl, hb⟩
    have Kl := HKl2.out.below hb
    have HB3 := Lib.hid (HB2.out.trans (hb.mono (by have := HB2.out.size; simp <;> omega)))
    clear hb
    have HKl3 := Lib.hid Kl
    clear Kl
    go_wp2_with fail
    with_reducible refine (HJ.out _).mono ?_
    rintro e w4 ⟨rfl, hb⟩
    have Kl := HKl3.out.below hb
    have HB4 := Lib.hid (HB3.out.trans (hb.mono (by have := HB3.out.size; simp <;> omega)))
    clear hb
    have HKl4 := Lib.hid Kl
    clear Kl
    go_wp2_with fail
    with_reducible refine (HA.out _).mono ?_
    rintro e w5 ⟨rfl, hb⟩
    have Kl := HKl4.out.below hb
    have HB5 := Lib.hid (HB4.out.trans (hb.mono (by have := HB4.out.size; simp <;> omega)))
    clear hb
    have HKl5 := Lib.hid Kl
    clear Kl
    go_wp2
    go_ret
    exact ⟨rfl, HB5.out⟩


theorem gcraDecides_walk (T Tau x y z : Int) (w : World) (_ : (Lit.int .i64 T).wf = true) (_ : (Lit.int .i64 Tau).wf = true) (_ : (Lit.int .i64 x).wf = true) (_ : (Lit.int .i64 y).wf = true) (_ : (Lit.int .i64 z).wf = true) :
    Calls Try.prog 3 #[.agg #[.int .i64 T, .int .i64 Tau], .int .i64 x, .int .i64 y, .int .i64 z] w (ValEnd w (.bool true)) := by
  have HD := fun w => gDecide_any w T Tau x y z
  have HR := fun w => docdec_any w T Tau x y z
  obtain ⟨g, t, xx, l, e, he, hv⟩ := ddecV_shape T Tau x y z
  rw [hv] at HD HR
  exact gcraDecides_w w T Tau x y z g t xx l e (Lib.hid HD) (Lib.hid HR) (Lib.hid awake5_any) (Lib.hid fun w => same5_refl w g t xx l)
theorem gcraLefts_walk (T Tau x y : Int) (w : World) (_ : (Lit.int .i64 T).wf = true) (_ : (Lit.int .i64 Tau).wf = true) (_ : (Lit.int .i64 x).wf = true) (_ : (Lit.int .i64 y).wf = true) :
    Calls Try.prog 4 #[.agg #[.int .i64 T, .int .i64 Tau], .int .i64 x, .int .i64 y] w (ValEnd w (.bool true)) := by
  have HL := fun w => gLeft_any w T Tau x y
  have HM := fun w => docleft_any w T Tau x y
  have HI := fun w => gIdle_any w x y
  have HJ := fun w => docidle_any w x y
  obtain ⟨l, e, he, hv⟩ := dleftV_shape T Tau x y
  obtain ⟨i, f, hf, hu⟩ := didleV_shape x y
  rw [hv] at HL HM
  rw [hu] at HI HJ
  exact gcraLefts_w w T Tau x y i l e f he hf (Lib.hid HL) (Lib.hid HM) (Lib.hid HI) (Lib.hid HJ) (Lib.hid awake5_any)
end Go.Proofs.Ythigbhhhhebjeaa
