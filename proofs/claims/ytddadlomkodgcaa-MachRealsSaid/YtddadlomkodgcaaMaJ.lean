/- The first example of mach. -/
import Derived.Test.YtddadlomkodgcaaMaD
namespace Go.Proofs.Ytddadlomkodgcaa
open Go.RowKit
set_option maxRecDepth 100000
set_option linter.unusedVariables false

theorem Off.up2 {w w1 w2 : World} {S : List Nat} (h : Off S w1 w2) (hB : Below w.heap.size w w1) (hs : ∀ x ∈ S, w.heap.size ≤ x) : Below w.heap.size w w2 :=
  hB.trans (h.below hB.size hs)
set_option maxHeartbeats 3200000 in
theorem awake11_any (w : World) : Calls Try.prog 10 #[] w (ValEnd w (.bool true)) := by
  have hn := mnew_ok w 2 (by omega) (by omega)
  rw [show ((2 : Nat) : Int) = 2 from rfl] at hn
  have HN := Lib.hid hn
  clear hn
  go_enter Try.func10, Try.ntmps10
  go_wp2_with fail
  with_reducible refine HN.out.mono ?_
  rintro e w1 ⟨b, bw, ring, rfl, hb, hbw, hm, hB⟩
  have hs := swap_ok w1 b bw 2 _ 0 0 ring hm (by omega) 0 1 0 7 rfl (by omega)
  rw [show ((1 : Nat) : Int) = 1 from rfl, show ((0 : Nat) : Int) = 0 from rfl, show ((7 : Nat) : Int) = 7 from rfl] at hs
  have HS := Lib.hid hs
  have HB1 := Lib.hid hB
  clear hs hm hB
  go_wp2_with fail
  with_reducible refine HS.out.mono ?_
  rintro e w2 ⟨rfl, hm, hf⟩
  have HB2 := Lib.hid (hf.up2 HB1.out (by intro x hx; simp at hx; omega))
  have hm : MachS w2 b bw 2 [0, 7] 0 1 _ := hm
  have hs := load_ok w2 b bw 2 _ 0 1 _ hm (by omega) 3 1 rfl (by omega)
  rw [show ((1 : Nat) : Int) = 1 from rfl] at hs
  have HL := Lib.hid hs
  clear hs hm hf
  go_wp2_with fail
  with_reducible refine HL.out.mono ?_
  rintro e w3 ⟨rfl, hm, hf⟩
  have HB3 := Lib.hid (hf.up2 HB2.out (by intro x hx; simp at hx; omega))
  have hs := swap_ok w3 b bw 2 _ 0 2 _ hm (by omega) 0 1 0 9 rfl (by omega)
  rw [show ((1 : Nat) : Int) = 1 from rfl, show ((0 : Nat) : Int) = 0 from rfl, show ((9 : Nat) : Int) = 9 from rfl] at hs
  have HS2 := Lib.hid hs
  clear hs hm hf
  go_wp2_with fail
  with_reducible refine HS2.out.mono ?_
  rintro e w4 ⟨rfl, hm, hf⟩
  have HB4 := Lib.hid (hf.up2 HB3.out (by intro x hx; simp at hx; omega))
  have hc := mcount_any w4 b bw 2 _ 0 3 _ hm
  rw [show ((3 : Nat) : Int) = 3 from rfl] at hc
  have HC := Lib.hid hc
  clear hm hf hc
  go_wp2_with fail
  with_reducible refine HC.out.mono ?_
  rintro e w5 ⟨rfl, hw⟩
  subst hw
  go_wp2
  go_ret
  exact ⟨rfl, HB4.out⟩
end Go.Proofs.Ytddadlomkodgcaa
