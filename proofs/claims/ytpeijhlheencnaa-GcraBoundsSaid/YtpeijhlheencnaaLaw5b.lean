/- Contracts of the laws on gcra: same, granted, awake. -/
import Derived.Test.YtpeijhlheencnaaLaw5a
namespace Go.Proofs.Ytpeijhlheencnaa
open Go.RowKit
set_option maxRecDepth 100000

set_option maxHeartbeats 400000 in
theorem same5_refl (w : World) (g : Bool) (t x l : Int) :
    Calls Try.prog 10 #[.agg #[.bool g, .int .i64 t, .int .i64 x, .int .i64 l], .agg #[.bool g, .int .i64 t, .int .i64 x, .int .i64 l]] w (ValEnd w (.bool true)) := by
  have hg : (g == g) = true := by simp
  go_enter Try.func10, Try.ntmps10
  go_wp2
  go_ret
  exact ⟨rfl, ((Below.refl _ _).alloc (Nat.le_refl _) _).alloc (by simp) _⟩

/-- What Decide answers of ticks. -/
theorem ddecV_good {T Tau tat now n : Nat} (h1 : 1 ≤ T) (h2 : T ≤ 4611686018427387903) (h3 : Tau ≤ 4611686018427387903) (h4 : tat ≤ 4611686018427387903) (h5 : now ≤ 4611686018427387903) (h6 : n ≤ 4611686018427387903) :
    chkV (T : Int) (Tau : Int) [(tat : Int), (now : Int), (n : Int)] = 0 := by
  have e1 : isTick (tat : Int) = true := isTick_iff.2 ⟨by omega, by omega⟩
  have e2 : isTick (now : Int) = true := isTick_iff.2 ⟨by omega, by omega⟩
  have e3 : isTick (n : Int) = true := isTick_iff.2 ⟨by omega, by omega⟩
  unfold chkV
  rw [if_pos (by simp [e1, e2, e3])]
  exact checkV_tick h1 h2 h3
theorem gDecide_nat (w : World) {T Tau tat now n : Nat} (h1 : 1 ≤ T) (h2 : T ≤ 4611686018427387903) (h3 : Tau ≤ 4611686018427387903) (h4 : tat ≤ 4611686018427387903) (h5 : now ≤ 4611686018427387903) (h6 : n ≤ 4611686018427387903) :
    Calls Try.prog 26 #[.agg #[.int .i64 (T : Int), .int .i64 (Tau : Int)], .int .i64 (tat : Int), .int .i64 (now : Int), .int .i64 (n : Int)] w (ValEnd w (.tuple #[AnsV (grB T Tau tat now n) (tatV T Tau tat now n) (wtV T Tau tat now n) (leftV T Tau (tatV T Tau tat now n) now), .int .i64 0])) :=
  gDecide_good w T Tau tat now n (ddecV_good h1 h2 h3 h4 h5 h6)

theorem fixed_a : AnsV (grB 10 20 0 100 1) (tatV 10 20 0 100 1) (wtV 10 20 0 100 1) (leftV 10 20 (tatV 10 20 0 100 1) 100) = .agg #[.bool true, .int .i64 110, .int .i64 0, .int .i64 2] := by
  have e1 : grB 10 20 0 100 1 = true := by decide +kernel
  have e2 : tatV 10 20 0 100 1 = 110 := by decide +kernel
  have e3 : wtV 10 20 0 100 1 = 0 := by decide +kernel
  have e4 : leftV 10 20 110 100 = 2 := by decide +kernel
  rw [e1, e2, e3, e4]; rfl
theorem fixed_b : AnsV (grB 10 20 130 100 1) (tatV 10 20 130 100 1) (wtV 10 20 130 100 1) (leftV 10 20 (tatV 10 20 130 100 1) 100) = .agg #[.bool false, .int .i64 130, .int .i64 10, .int .i64 0] := by
  have e1 : grB 10 20 130 100 1 = false := by decide +kernel
  have e2 : tatV 10 20 130 100 1 = 130 := by decide +kernel
  have e3 : wtV 10 20 130 100 1 = 10 := by decide +kernel
  have e4 : leftV 10 20 130 100 = 0 := by decide +kernel
  rw [e1, e2, e3, e4]; rfl

set_option maxHeartbeats 800000 in
theorem awake5_any (w : World) : Calls Try.prog 6 #[] w (ValEnd w (.bool true)) := by
  have HA := Lib.hid (fun w => gDecide_nat w (T := 10) (Tau := 20) (tat := 0) (now := 100) (n := 1) (by omega) (by omega) (by omega) (by omega) (by omega) (by omega))
  have HB := Lib.hid (fun w => gDecide_nat w (T := 10) (Tau := 20) (tat := 130) (now := 100) (n := 1) (by omega) (by omega) (by omega) (by omega) (by omega) (by omega))
  rw [fixed_a] at HA
  rw [fixed_b] at HB
  have HS1 := Lib.hid (fun w => same5_refl w true 110 0 2)
  have HS2 := Lib.hid (fun w => same5_refl w false 130 10 0)
  go_enter Try.func6, Try.ntmps6
  go_wp2_with fail
  refine (HA.out _).mono ?_
  rintro e w1 ⟨rfl, hb⟩
  have bl := (BlkL.new w [.int .i64 10, .int .i64 20] 23).below hb
  have HB1 := Lib.hid (((Below.refl w.heap.size w).alloc (Nat.le_refl _) _).trans (hb.mono (by simp)))
  clear hb
  have c0 := bl.cell 0 _ rfl
  have c1 := bl.cell 1 _ rfl
  have hz := bl.lt
  go_wp2_with fail
  refine (HB.out _).mono ?_
  rintro e w2 ⟨rfl, hb⟩
  have HB2 := Lib.hid ((HB1.out.alloc HB1.out.size _).trans (hb.mono (by have := HB1.out.size; simp; omega)))
  have ba := (BlkL.new w1 [.bool true, .int .i64 110, .int .i64 0, .int .i64 2] 37).below hb
  clear hb bl c0 c1
  have a0 := ba.cell 0 _ rfl
  have a1 := ba.cell 1 _ rfl
  have a2 := ba.cell 2 _ rfl
  have a3 := ba.cell 3 _ rfl
  have hz2 := ba.lt
  clear ba hz
  go_wp2_with fail
  refine (HS1.out _).mono ?_
  rintro e w3 ⟨rfl, hb⟩
  have HB3 := Lib.hid ((HB2.out.alloc HB2.out.size _).trans (hb.mono (by have := HB2.out.size; simp; omega)))
  have bb := (BlkL.new w2 [.bool false, .int .i64 130, .int .i64 10, .int .i64 0] 37).below hb
  clear hb a0 a1 a2 a3
  have b0 := bb.cell 0 _ rfl
  have b1 := bb.cell 1 _ rfl
  have b2 := bb.cell 2 _ rfl
  have b3 := bb.cell 3 _ rfl
  clear bb hz2
  go_wp2_with fail
  refine (HS2.out _).mono ?_
  rintro e w4 ⟨rfl, hb⟩
  have HB4 := Lib.hid (HB3.out.trans (hb.mono HB3.out.size))
  clear hb
  go_wp2
  go_ret
  exact ⟨rfl, HB4.out⟩
theorem ddecV_left {T Tau tat now : Nat} (h1 : 1 ≤ T) (h2 : T ≤ 4611686018427387903) (h3 : Tau ≤ 4611686018427387903) (h4 : tat ≤ 4611686018427387903) (h5 : now ≤ 4611686018427387903) :
    chkV (T : Int) (Tau : Int) [(tat : Int), (now : Int)] = 0 := by
  have e1 : isTick (tat : Int) = true := isTick_iff.2 ⟨by omega, by omega⟩
  have e2 : isTick (now : Int) = true := isTick_iff.2 ⟨by omega, by omega⟩
  unfold chkV
  rw [if_pos (by simp [e1, e2])]
  exact checkV_tick h1 h2 h3
end Go.Proofs.Ytpeijhlheencnaa
