/- The first example of count. -/
import Derived.Test.YtddadlomkodgcaaMaH
namespace Go.Proofs.Ytddadlomkodgcaa
open Go.RowKit
set_option maxRecDepth 100000
set_option linter.unusedVariables false

theorem z0 : ((0 : Nat) : Int) = 0 := rfl
theorem z1 : ((1 : Nat) : Int) = 1 := rfl
theorem z2 : ((2 : Nat) : Int) = 2 := rfl
theorem Off.up {w w1 w2 : World} {c b bw : Nat} (h : Off [c, b, bw] w1 w2) (hB : Below w.heap.size w w1) (h0 : w.heap.size ≤ c) (h1 : w.heap.size ≤ b) (h2 : w.heap.size ≤ bw) : Below w.heap.size w w2 :=
  hB.trans (h.below hB.size (by intro x hx; simp at hx; omega))
theorem value_eq (w : World) (c b bw limit v k : Nat) (calls : List CallV) (h : CntS w c b bw limit v k calls) (hv : v ≤ 9223372036854775807) (z : Int) (hz : (v : Int) = z) :
    Calls Try.prog 34 #[.pointer (some ⟨c, 0, none⟩)] w fun e w' => e = .returned (.int .i64 z) ∧ w = w' := by
  subst hz
  exact value_any w c b bw limit v k calls h hv
set_option maxHeartbeats 3200000 in
theorem awake12_any (w : World) : Calls Try.prog 24 #[] w (ValEnd w (.bool true)) := by
  have hn := cnew_ok w 1 (by omega)
  rw [z1] at hn
  have HN := Lib.hid hn
  clear hn
  go_enter Try.func24, Try.ntmps24
  go_wp2_with fail
  with_reducible refine HN.out.mono ?_
  rintro e w1 ⟨c, b, bw, rfl, hc, hb, hbw, h1, hB⟩
  have HB1 := Lib.hid hB
  have hs := start_ok w1 c b bw 1 0 0 _ h1 0 (by omega) 1 (by omega) (by omega) rfl
  rw [z0, z1] at hs
  have HS := Lib.hid hs
  clear hs hB h1
  go_wp2_with fail
  with_reducible refine HS.out.mono ?_
  rintro e w2 ⟨rfl, h2, hf⟩
  have HB2 := Lib.hid (hf.up HB1.out hc hb hbw)
  have hs := start_busy w2 c b bw 1 0 0 _ h2 0 (by omega) 1 (by omega) (by omega) (by simp)
  rw [z0, z1] at hs
  have HS2 := Lib.hid hs
  have hs := step_any w2 c b bw 1 0 0 _ h2 (by omega) (by omega) (by omega) 0 (by omega) ⟨1, false, 0⟩ rfl (by simp) (OkCall.fresh (by omega) (by omega))
  rw [z0, show stepO 1 0 ⟨1, false, 0⟩ = ⟨false, 0, 0, 0, ⟨1, true, 0⟩⟩ from rfl] at hs
  have HS3 := Lib.hid hs
  clear hs hf h2
  go_wp2_with fail
  with_reducible refine HS2.out.mono ?_
  rintro e w2 ⟨rfl, hw⟩
  subst hw
  go_wp2_with fail
  with_reducible refine HS3.out.mono ?_
  rintro e w3 ⟨rfl, h3, hf⟩
  have HB3 := Lib.hid ((hf.up HB2.out hc hb hbw).alloc (by have := (hf.up HB2.out hc hb hbw).size; omega) (.cells #[.bool false, .int .i64 0, .int .i64 0] 71))
  have h4 := h3.alloc (.cells #[.bool false, .int .i64 0, .int .i64 0] 71)
  have k4 := BlkL.new w3 [.bool false, .int .i64 0, .int .i64 0] 71
  have hs := step_any _ c b bw 1 0 1 _ h4 (by omega) (by omega) (by omega) 0 (by omega) ⟨1, true, 0⟩ rfl (by simp) ⟨by simp, (fun h => by cases h), fun _ => .inl ⟨rfl, by show 0 < 1; omega⟩⟩
  rw [z0, show stepO 1 0 ⟨1, true, 0⟩ = ⟨true, 0, 1, 1, noCall⟩ from rfl] at hs
  have HS4 := Lib.hid hs
  have K4 := Lib.hid k4
  have l4 := k4.lt
  have l4c := h3.blk.lt
  obtain ⟨rg, hm⟩ := h3.m
  have l4b := hm.blk.lt
  have l4w := hm.wd.lt
  have hn3 : w3.heap.size ∉ [c, b, bw] := by simp; omega
  clear hs h3 h4 hf k4 HS3 HS2 HS HN hm
  go_wp2_with fail
  with_reducible refine HS4.out.mono ?_
  rintro e w5 ⟨rfl, h5, hf⟩
  have HB5 := Lib.hid (hf.up HB3.out hc hb hbw)
  have hs5 := HB5.out.size
  have k5 := (K4.out.off hf hn3).alloc (.cells #[.bool true, .int .i64 0, .int .i64 1] 71)
  have k6 := BlkL.new w5 [.bool true, .int .i64 0, .int .i64 1] 71
  have h6 := h5.alloc (.cells #[.bool true, .int .i64 0, .int .i64 1] 71)
  have HV := Lib.hid (value_eq _ c b bw 1 1 2 _ h6 (by omega) 1 rfl)
  have hst := steps_any _ c b bw 1 1 2 _ h6
  rw [z2] at hst
  have HT := Lib.hid hst
  have m0 := k5.cell 0 _ rfl
  have m1 := k5.cell 1 _ rfl
  have m2 := k5.cell 2 _ rfl
  have n0 := k6.cell 0 _ rfl
  have n1 := k6.cell 1 _ rfl
  have n2 := k6.cell 2 _ rfl
  have nl := k6.lt
  have ml := k5.lt
  clear hst h5 hf k5 k6 h6 K4 HS4
  go_wp2_with fail
  with_reducible refine HV.out.mono ?_
  rintro e w7 ⟨rfl, hw⟩
  subst hw
  go_wp2_with fail
  with_reducible refine HT.out.mono ?_
  rintro e w7 ⟨rfl, hw⟩
  subst hw
  go_wp2
  go_ret
  exact ⟨rfl, HB5.out.alloc hs5 _⟩
end Go.Proofs.Ytddadlomkodgcaa
