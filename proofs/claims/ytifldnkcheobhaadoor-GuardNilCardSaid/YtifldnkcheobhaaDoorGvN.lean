/- GuardNil: the walk. -/
import Derived.Test.YtifldnkcheobhaaDoorGvIP
namespace Go.Proofs.YtifldnkcheobhaaDoor
open Go.RowKit
set_option maxRecDepth 100000
set_option linter.unusedVariables false
set_option linter.unusedSimpArgs false
set_option maxHeartbeats 4000000

theorem guardNil_walk {w0 : World} (s : ByteArray) (w : World) (h0 : Lib0 w0) (hb : Below w0.heap.size w0 w) :
    Calls Tryd.prog 9 #[.string s] w fun e w' => e = .returned (.bool true) ∧ Below w.heap.size w w' := by
  have HFI : Hid (∀ W, Calls Tryd.prog 17 #[.pointer none] W fun e w' => e = .returned (.tuple #[.slice none 0 0, .int .i64 7]) ∧ w' = W) := Lib.hid fire_nil
  have HON := Lib.hid (one_nil w s)
  have HST : Hid (∀ W, Calls Tryd.prog 19 #[.pointer none, .string s] W fun e w' => e = .returned (.tuple #[.int .i64 0, .int .i64 7]) ∧ w' = W) := Lib.hid (fun W => strikes_nil W s)
  have HAG : Hid (∀ W, Calls Tryd.prog 22 #[.pointer none, .string s] W fun e w' => e = .returned (.int .i64 7) ∧ w' = W) := Lib.hid (fun W => again_nil W s)
  have HLI : Hid (∀ W, Calls Tryd.prog 23 #[.pointer none] W fun e w' => e = .returned (.slice none 0 0) ∧ w' = W) := Lib.hid live_nil
  have HSA : Hid (∀ W, Calls Tryd.prog 21 #[repNil, repNil] W fun e w' => e = .returned (.bool true) ∧ Below W.heap.size W w') := Lib.hid same10_nil
  go_enter Tryd.func9, Tryd.ntmps9
  go_wp2_with fail
  with_reducible refine (HFI.out _).mono ?_
  rintro e w1 ⟨rfl, rfl⟩
  go_wp2_with fail
  with_reducible refine HON.out.mono ?_
  rintro e w2 ⟨rfl, hb2⟩
  have b3 := hb2.alloc hb2.size (.cells #[.string ⟨#[]⟩, .slice none 0 0, .int .u8 0, .int .i64 0, .bool false] 56)
  have kb := BlkL.new w2 [.string ⟨#[]⟩, .slice none 0 0, .int .u8 0, .int .i64 0, .bool false] 56
  have HB3 := Lib.hid b3
  have HK := Lib.hid kb
  have HAW := Lib.hid (awake10_any h0 (hb.trans (b3.mono hb.size)))
  clear b3 kb hb2
  simp only [repNil] at HSA ⊢
  go_wp2_with fail
  with_reducible refine (HST.out _).mono ?_
  rintro e w3 ⟨rfl, rfl⟩
  go_wp2_with fail
  with_reducible refine HAW.out.mono ?_
  rintro e w4 ⟨rfl, hb4⟩
  have k4 := HK.out.below hb4
  have c0 := k4.cell 0 _ rfl
  have c1 := k4.cell 1 _ rfl
  have c2 := k4.cell 2 _ rfl
  have c3 := k4.cell 3 _ rfl
  have c4 := k4.cell 4 _ rfl
  have HB4 := Lib.hid (HB3.out.trans (hb4.mono HB3.out.size))
  clear hb4 k4
  go_wp2_with fail
  with_reducible refine (HSA.out _).mono ?_
  rintro e w5 ⟨rfl, hb5⟩
  have HB5 := Lib.hid (HB4.out.trans (hb5.mono HB4.out.size))
  clear hb5
  go_wp2_with fail
  with_reducible refine (HAG.out _).mono ?_
  rintro e w6 ⟨rfl, rfl⟩
  go_wp2_with fail
  with_reducible refine (HLI.out _).mono ?_
  rintro e w7 ⟨rfl, rfl⟩
  go_wp2
  go_ret
  exact ⟨rfl, HB5.out⟩
end Go.Proofs.YtifldnkcheobhaaDoor
