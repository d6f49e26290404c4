/- Contract: New of a shard. -/
import Derived.Test.YtpjgpiiibgogeaaShZ
namespace Go.Proofs.Ytpjgpiiibgogeaa
open Go.RowKit
set_option maxRecDepth 100000
set_option linter.unusedVariables false

theorem sz_list : Try.zeroCells145.toList = .pointer none :: .slice none 0 0 :: List.replicate 64 .nilFunc := by kernel_rfl
theorem sz_set (v : Value) : Try.zeroCells145.setIfInBounds 0 v = (v :: .slice none 0 0 :: List.replicate 64 .nilFunc).toArray := by
  apply Array.ext'
  rw [Array.toList_setIfInBounds, sz_list]
  rfl
theorem shF_new (w : World) (b : Nat) (T : TypeId) : BlkF (w.alloc (.cells (Value.pointer (some ⟨b, 0, none⟩) :: .slice none 0 0 :: List.replicate 64 .nilFunc).toArray T)) w.heap.size 66 (shF b none 0 0 (fun _ => .nilFunc)) := by
  have h := BlkL.new w (Value.pointer (some ⟨b, 0, none⟩) :: .slice none 0 0 :: List.replicate 64 .nilFunc) T
  refine ⟨h.lt, fun i hi => h.cell i _ ?_, fun i hi => h.froz i (by simpa using hi)⟩
  match i with
  | 0 => rfl
  | 1 => rfl
  | j + 2 =>
    show (List.replicate 64 Value.nilFunc)[j]? = _
    rw [List.getElem?_replicate, if_pos (by omega)]
    rfl
set_option maxHeartbeats 1600000 in
theorem snew_any (w : World) : Calls Try.prog 33 #[] w fun e w' => ∃ s b bw, e = .returned (.pointer (some ⟨s, 0, none⟩)) ∧ w.heap.size ≤ s ∧ w.heap.size ≤ b ∧ w.heap.size ≤ bw ∧ ShS w' s b bw [] 1 1 [] (fun _ => .none) ∧ Below w.heap.size w w' := by
  have hn := mnew_ok w 1 (by omega) (by omega)
  rw [show ((1 : Nat) : Int) = 1 from rfl] at hn
  have HN := Lib.hid hn
  clear hn
  go_enter Try.func33, Try.ntmps33
  go_wp2_with fail
  with_reducible refine HN.out.mono ?_
  rintro e w1 ⟨b, bw, ring, rfl, hb, hbw, hm, hb1⟩
  have hsw := sSwap0 w1 b bw 0 0 ring hm (by omega) 0 (by omega) 0 1
  rw [show ((0 : Nat) : Int) = 0 from rfl, show ((1 : Nat) : Int) = 1 from rfl] at hsw
  have HSW := Lib.hid hsw
  have HB1 := Lib.hid hb1
  have hl1 := hm.blk.lt
  have hl2 := hm.wd.lt
  clear hsw hb1 hm HN
  go_wp2_with fail
  with_reducible refine HSW.out.mono ?_
  rintro e w2 ⟨rfl, ⟨ring2, hm2⟩, hf2⟩
  have HM2 := Lib.hid (And.intro hm2 hf2)
  have hs2 := hf2.size
  clear hm2 hf2 HSW
  go_wp2
  go_ret
  rw [sz_set]
  obtain ⟨hm2, hf2⟩ := HM2.out
  rw [if_pos trivial] at hm2
  have hb2 : Below w.heap.size w w2 := HB1.out.trans (hf2.below HB1.out.size (by intro x hx; simp at hx; omega))
  have hbl := shF_new w2 b 145
  have hne : w2.heap.size ≠ b := by omega
  have hne' : w2.heap.size ≠ bw := by omega
  exact ⟨w2.heap.size, b, bw, rfl, hb2.size, hb, hbw, ⟨none, 0, 0, [], fun _ => .nilFunc, ring2, rfl, ⟨hbl, hm2.alloc _, VerA.nil _ _ _, wf_nil, fun i _ => .none, Nat.le_refl _, Nat.le_refl _, hne, hne', (by simp)⟩⟩, hb2.alloc hb2.size _⟩
end Go.Proofs.Ytpjgpiiibgogeaa
