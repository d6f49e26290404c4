/- BookFull: Do of a book of any room; the document's Find; the walk. -/
import Derived.Test.YtnkecjjfbllgdaaBkL
import Derived.Test.YtnkecjjfbllgdaaBkCl
import Derived.Deep.DeepCutAuto

/- (*Book).do: where there is no room. -/
namespace Go.Proofs.Ytnkecjjfbllgdaa
open Go.RowKit Go.Maps
set_option maxRecDepth 100000
set_option linter.unusedVariables false
set_option maxHeartbeats 12800000 in
theorem bdo_full (w : World) (b pb poff n c room mb kn kc q mc kcc : Nat) (op kd : Nat) (KA Ac : Option Addr) (N now s T Tau pm tat r0 r2 r3 r4 r5 t' : Int) (r1 : Bool) (xs : List Int) (sB : ByteArray)
    (KB : BlkL w b [.slice (some ⟨pb, poff, none⟩) n c, .int .i64 (room : Nat), .map (some mb)]) (hmb : mb < w.heap.size) (hpb : pb < w.heap.size)
    (p0 : w.cell? ⟨pb, poff + q * 4, none⟩ = some (.int .u8 (kd : Nat))) (p1 : w.cell? ⟨pb, poff + q * 4 + 1, none⟩ = some (.int .i64 T)) (p2 : w.cell? ⟨pb, poff + q * 4 + 2, none⟩ = some (.int .i64 Tau)) (p3 : w.cell? ⟨pb, poff + q * 4 + 3, none⟩ = some (.int .i64 pm))
    (hq0 : (0 : Int) ≤ (q : Int)) (hqn : (q : Int) < (n : Int)) (hqn' : q < n)
    (HI : Hid (∀ W, Below w.heap.size w W → Calls Try.prog 53 #[.int .i64 (q : Nat), .slice KA kn kc] W fun e w' => ∃ A c, e = .returned (.tuple #[.slice A (kn + 1) c, .int .i64 0]) ∧ (convert 23 9 (.slice A (kn + 1) c)).run Try.prog w' = .ok (.string sB) w' ∧ Below W.heap.size W w'))
    (HL : Hid (∀ W, Below w.heap.size w W → (Instr.lookup 69 (.map (some mb)) (.string sB) true).run Try.prog W = .ok (.tuple #[.agg #[.int .i64 tat, .slice Ac mc kcc], .bool false]) W))
    (HD : Hid (∀ W, Below w.heap.size w W → Calls Try.prog 54 #[.agg #[.int .u8 (kd : Nat), .int .i64 T, .int .i64 Tau, .int .i64 pm], .agg #[.int .i64 tat, .slice Ac mc kcc], .agg #[.int .u8 (op : Nat), .int .i64 (q : Nat), .slice KA kn kc, .int .i64 N], .int .i64 now, .int .i64 s] W fun e w' => ∃ A' m' k', e = .returned (.tuple #[.agg #[.int .i64 r0, .bool r1, .int .i64 r2, .int .i64 r3, .int .i64 r4, .int .i64 r5], .agg #[.int .i64 t', .slice A' m' k'], .bool true]) ∧ (true = true → OwnI w' W.heap.size A' m' k' xs) ∧ Below W.heap.size W w'))
    (sz : Nat) (hsz : decide ((room : Int) ≤ (sz : Int)) = true) (hsz' : decide (room ≤ sz) = true)
    (HN : Hid (∀ W, Below w.heap.size w W → ∀ ty, (Builtin.len_ #[69] ty #[.map (some mb)]).run Try.prog W = .ok (.int .i64 (sz : Nat)) W)) :
    Calls Try.prog 35 #[.pointer (some ⟨b, 0, none⟩), .agg #[.int .u8 (op : Nat), .int .i64 (q : Nat), .slice KA kn kc, .int .i64 N], .int .i64 now, .int .i64 s] w fun e w' => e = .returned (.agg #[.int .i64 10, .bool false, .int .i64 0, .int .i64 0, .int .i64 0, .int .i64 0]) ∧ Below w.heap.size w w' := by
  go_enter Try.func35, Try.ntmps35
  have k0 := (BlkL.new w [.int .u8 (op : Nat), .int .i64 (q : Nat), .slice KA kn kc, .int .i64 N] 25).alloc (.cells #[.int .i64 0, .bool false, .int .i64 0, .int .i64 0, .int .i64 0, .int .i64 0] 42)
  have k1 := BlkL.new (w.alloc (.cells #[.int .u8 (op : Nat), .int .i64 (q : Nat), .slice KA kn kc, .int .i64 N] 25)) [.int .i64 0, .bool false, .int .i64 0, .int .i64 0, .int .i64 0, .int .i64 0] 42
  have kb := (KB.alloc (.cells #[.int .u8 (op : Nat), .int .i64 (q : Nat), .slice KA kn kc, .int .i64 N] 25)).alloc (.cells #[.int .i64 0, .bool false, .int .i64 0, .int .i64 0, .int .i64 0, .int .i64 0] 42)
  have hb0 := below_a2 w (.cells #[.int .u8 (op : Nat), .int .i64 (q : Nat), .slice KA kn kc, .int .i64 N] 25) (.cells #[.int .i64 0, .bool false, .int .i64 0, .int .i64 0, .int .i64 0, .int .i64 0] 42)
  simp only [World.size_alloc, List.toArray] at k0 k1 kb hb0
  have K0 := Lib.hid k0
  have K1 := Lib.hid k1
  have KB0 := Lib.hid kb
  have HB0 := Lib.hid hb0
  clear k0 k1 kb hb0
  have PP := Lib.hid (And.intro p0 (And.intro p1 (And.intro p2 p3)))
  have HM := Lib.hid (And.intro hmb hpb)
  have HKB := Lib.hid KB
  clear p0 p1 p2 p3 KB hmb hpb
  go_wp2_with fail
  with_reducible refine (HI.out _ HB0.out).mono ?_
  rintro e w1 ⟨Ai, ci, rfl, hcv, hb⟩
  have k0 := K0.out.below hb
  have k1 := K1.out.below hb
  have kb := KB0.out.below hb
  have HB1 := Lib.hid (HB0.out.trans (hb.mono HB0.out.size))
  have hlk := HL.out w1 HB1.out
  clear hb K0 K1 KB0
  have a0 := k0.cell 0 _ rfl
  have a1 := k0.cell 1 _ rfl
  have a2 := k0.cell 2 _ rfl
  have a3 := k0.cell 3 _ rfl
  have n2 := kb.cell 2 _ rfl
  have K0 := Lib.hid k0
  have K1 := Lib.hid k1
  have KB1 := Lib.hid kb
  clear k0 k1 kb
  go_wp2
  have k0 := K0.out.alloc (.cells #[.int .i64 tat, .slice Ac mc kcc] 83)
  have k1 := K1.out.alloc (.cells #[.int .i64 tat, .slice Ac mc kcc] 83)
  have kb := KB1.out.alloc (.cells #[.int .i64 tat, .slice Ac mc kcc] 83)
  have k2 := BlkL.new w1 [.int .i64 tat, .slice Ac mc kcc] 83
  have hb2 := HB1.out.alloc HB1.out.size (.cells #[.int .i64 tat, .slice Ac mc kcc] 83)
  clear K0 K1 KB1 HB1 HI HL hcv hlk a0 a1 a2 a3 n2
  simp only [List.toArray] at k0 k1 k2 kb hb2
  generalize World.alloc _ _ = WA at k0 k1 k2 kb hb2 ⊢
  have p0 := (hb2.cell (p := ⟨pb, poff + q * 4, none⟩) HM.out.2).trans PP.out.1
  have p1 := (hb2.cell (p := ⟨pb, poff + q * 4 + 1, none⟩) HM.out.2).trans PP.out.2.1
  have p2 := (hb2.cell (p := ⟨pb, poff + q * 4 + 2, none⟩) HM.out.2).trans PP.out.2.2.1
  have p3 := (hb2.cell (p := ⟨pb, poff + q * 4 + 3, none⟩) HM.out.2).trans PP.out.2.2.2
  have a0 := k0.cell 0 _ rfl
  have a1 := k0.cell 1 _ rfl
  have a2 := k0.cell 2 _ rfl
  have a3 := k0.cell 3 _ rfl
  have n0 := kb.cell 0 _ rfl
  have v0 := k2.cell 0 _ rfl
  have v1 := k2.cell 1 _ rfl
  have y0 := k0.lt
  have y2 := k2.lt
  have yb := kb.lt
  have yp := Nat.lt_of_lt_of_le HM.out.2 hb2.size
  have HY := Lib.hid (And.intro k1.lt yb)
  have K0 := Lib.hid k0
  have K2 := Lib.hid k2
  have K1 := Lib.hid k1
  have KB1 := Lib.hid kb
  have HB2 := Lib.hid hb2
  clear k0 k1 k2 kb hb2
  go_region_held3 (fun w' => w'.cell? ⟨b, 0, none⟩ = some (.slice (some ⟨pb, poff, none⟩) n c) ∧ w'.cell? ⟨w.heap.size, 0, none⟩ = some (.int .u8 (op : Nat)) ∧ w'.cell? ⟨w.heap.size, 1, none⟩ = some (.int .i64 (q : Nat)) ∧ w'.cell? ⟨w.heap.size, 2, none⟩ = some (.slice KA kn kc) ∧ w'.cell? ⟨w.heap.size, 3, none⟩ = some (.int .i64 N) ∧ w'.cell? ⟨w1.heap.size, 0, none⟩ = some (.int .i64 tat) ∧ w'.cell? ⟨w1.heap.size, 1, none⟩ = some (.slice Ac mc kcc) ∧ w'.cell? ⟨pb, poff + q * 4, none⟩ = some (.int .u8 (kd : Nat)) ∧ w'.cell? ⟨pb, poff + q * 4 + 1, none⟩ = some (.int .i64 T) ∧ w'.cell? ⟨pb, poff + q * 4 + 2, none⟩ = some (.int .i64 Tau) ∧ w'.cell? ⟨pb, poff + q * 4 + 3, none⟩ = some (.int .i64 pm)) (refine ⟨?_, ?_, ?_, ?_, ?_, ?_, ?_, ?_, ?_, ?_, ?_⟩ <;> ((repeat (first | (with_reducible refine keepS (by omega) ?_) | (with_reducible refine keepA (by first | omega | (simp [World.setCell]; omega)) ?_) | (with_reducible refine keepD ?_))); with_reducible assumption)) ((first | (with_reducible refine (HD.out WA.drew HB2.out.drew).mono ?_; rintro e w3 ⟨A', m', k', rfl, ho, hb⟩; clear a0 a1 a2 a3 n0 v0 v1 p0 p1 p2 p3; have k1 := K1.out.drew.below hb; have kb := KB1.out.drew.below hb; have k0 := K0.out.drew.below hb; have k2 := K2.out.drew.below hb; have p0 := ((HB2.out.drew.trans (hb.mono HB2.out.drew.size)).cell (p := ⟨pb, poff + q * 4, none⟩) HM.out.2).trans PP.out.1; have p1 := ((HB2.out.drew.trans (hb.mono HB2.out.drew.size)).cell (p := ⟨pb, poff + q * 4 + 1, none⟩) HM.out.2).trans PP.out.2.1; have p2 := ((HB2.out.drew.trans (hb.mono HB2.out.drew.size)).cell (p := ⟨pb, poff + q * 4 + 2, none⟩) HM.out.2).trans PP.out.2.2.1; have p3 := ((HB2.out.drew.trans (hb.mono HB2.out.drew.size)).cell (p := ⟨pb, poff + q * 4 + 3, none⟩) HM.out.2).trans PP.out.2.2.2; have n0 := kb.cell 0 _ rfl; have a0 := k0.cell 0 _ rfl; have a1 := k0.cell 1 _ rfl; have a2 := k0.cell 2 _ rfl; have a3 := k0.cell 3 _ rfl; have v0 := k2.cell 0 _ rfl; have v1 := k2.cell 1 _ rfl; clear k0 k2; have HB3 := Lib.hid (HB2.out.drew.trans (hb.mono HB2.out.drew.size)); have hs3 : WA.heap.size ≤ w3.heap.size := szB hb (Nat.le_refl _); have HO := Lib.hid ho; clear hb ho; have s31 : w3.heap.size < w3.heap.size + 1 := Nat.lt_succ_self _; have L1 := Lib.hid k1; have LB := Lib.hid kb; clear k1 kb) | (with_reducible refine (HD.out (WA.alloc (.cells #[.int .i64 0, .bool false, .int .i64 0, .int .i64 0, .int .i64 0, .int .i64 0] 42)).drew (HB2.out.alloc HB2.out.size (.cells #[.int .i64 0, .bool false, .int .i64 0, .int .i64 0, .int .i64 0, .int .i64 0] 42)).drew).mono ?_; rintro e w3 ⟨A', m', k', rfl, ho, hb⟩; clear a0 a1 a2 a3 n0 v0 v1 p0 p1 p2 p3; have k1 := (K1.out.alloc (.cells #[.int .i64 0, .bool false, .int .i64 0, .int .i64 0, .int .i64 0, .int .i64 0] 42)).drew.below hb; have kb := (KB1.out.alloc (.cells #[.int .i64 0, .bool false, .int .i64 0, .int .i64 0, .int .i64 0, .int .i64 0] 42)).drew.below hb; have k0 := (K0.out.alloc (.cells #[.int .i64 0, .bool false, .int .i64 0, .int .i64 0, .int .i64 0, .int .i64 0] 42)).drew.below hb; have k2 := (K2.out.alloc (.cells #[.int .i64 0, .bool false, .int .i64 0, .int .i64 0, .int .i64 0, .int .i64 0] 42)).drew.below hb; have p0 := (((HB2.out.alloc HB2.out.size (.cells #[.int .i64 0, .bool false, .int .i64 0, .int .i64 0, .int .i64 0, .int .i64 0] 42)).drew.trans (hb.mono (HB2.out.alloc HB2.out.size (.cells #[.int .i64 0, .bool false, .int .i64 0, .int .i64 0, .int .i64 0, .int .i64 0] 42)).drew.size)).cell (p := ⟨pb, poff + q * 4, none⟩) HM.out.2).trans PP.out.1; have p1 := (((HB2.out.alloc HB2.out.size (.cells #[.int .i64 0, .bool false, .int .i64 0, .int .i64 0, .int .i64 0, .int .i64 0] 42)).drew.trans (hb.mono (HB2.out.alloc HB2.out.size (.cells #[.int .i64 0, .bool false, .int .i64 0, .int .i64 0, .int .i64 0, .int .i64 0] 42)).drew.size)).cell (p := ⟨pb, poff + q * 4 + 1, none⟩) HM.out.2).trans PP.out.2.1; have p2 := (((HB2.out.alloc HB2.out.size (.cells #[.int .i64 0, .bool false, .int .i64 0, .int .i64 0, .int .i64 0, .int .i64 0] 42)).drew.trans (hb.mono (HB2.out.alloc HB2.out.size (.cells #[.int .i64 0, .bool false, .int .i64 0, .int .i64 0, .int .i64 0, .int .i64 0] 42)).drew.size)).cell (p := ⟨pb, poff + q * 4 + 2, none⟩) HM.out.2).trans PP.out.2.2.1; have p3 := (((HB2.out.alloc HB2.out.size (.cells #[.int .i64 0, .bool false, .int .i64 0, .int .i64 0, .int .i64 0, .int .i64 0] 42)).drew.trans (hb.mono (HB2.out.alloc HB2.out.size (.cells #[.int .i64 0, .bool false, .int .i64 0, .int .i64 0, .int .i64 0, .int .i64 0] 42)).drew.size)).cell (p := ⟨pb, poff + q * 4 + 3, none⟩) HM.out.2).trans PP.out.2.2.2; have n0 := kb.cell 0 _ rfl; have a0 := k0.cell 0 _ rfl; have a1 := k0.cell 1 _ rfl; have a2 := k0.cell 2 _ rfl; have a3 := k0.cell 3 _ rfl; have v0 := k2.cell 0 _ rfl; have v1 := k2.cell 1 _ rfl; clear k0 k2; have bR := (BlkL.new WA [.int .i64 0, .bool false, .int .i64 0, .int .i64 0, .int .i64 0, .int .i64 0] 42).drew.below hb; have HB3 := Lib.hid ((HB2.out.alloc HB2.out.size (.cells #[.int .i64 0, .bool false, .int .i64 0, .int .i64 0, .int .i64 0, .int .i64 0] 42)).drew.trans (hb.mono (HB2.out.alloc HB2.out.size (.cells #[.int .i64 0, .bool false, .int .i64 0, .int .i64 0, .int .i64 0, .int .i64 0] 42)).drew.size)); have hs3 : WA.heap.size + 1 ≤ w3.heap.size := szB hb (show WA.heap.size + 1 ≤ (WA.alloc (.cells #[.int .i64 0, .bool false, .int .i64 0, .int .i64 0, .int .i64 0, .int .i64 0] 42)).heap.size by simp); have HO := Lib.hid ho; clear hb ho; have xR0 := bR.cell 0 _ rfl; have xR1 := bR.cell 1 _ rfl; have xR2 := bR.cell 2 _ rfl; have xR3 := bR.cell 3 _ rfl; have xR4 := bR.cell 4 _ rfl; have xR5 := bR.cell 5 _ rfl; have gR0 := bR.froz 0 (by simp); have gR1 := bR.froz 1 (by simp); have gR2 := bR.froz 2 (by simp); have gR3 := bR.froz 3 (by simp); have gR4 := bR.froz 4 (by simp); have gR5 := bR.froz 5 (by simp); have lR := bR.lt; have HR := Lib.hid bR; clear bR; have s31 : w3.heap.size < w3.heap.size + 1 := Nat.lt_succ_self _; have l1R := Nat.lt_succ_of_lt lR; have L1 := Lib.hid k1; have LB := Lib.hid kb; clear k1 kb) | (with_reducible refine (HD.out (WA.alloc (.cells #[.int .i64 0, .slice none 0 0] 83)).drew (HB2.out.alloc HB2.out.size (.cells #[.int .i64 0, .slice none 0 0] 83)).drew).mono ?_; rintro e w3 ⟨A', m', k', rfl, ho, hb⟩; clear a0 a1 a2 a3 n0 v0 v1 p0 p1 p2 p3; have k1 := (K1.out.alloc (.cells #[.int .i64 0, .slice none 0 0] 83)).drew.below hb; have kb := (KB1.out.alloc (.cells #[.int .i64 0, .slice none 0 0] 83)).drew.below hb; have k0 := (K0.out.alloc (.cells #[.int .i64 0, .slice none 0 0] 83)).drew.below hb; have k2 := (K2.out.alloc (.cells #[.int .i64 0, .slice none 0 0] 83)).drew.below hb; have p0 := (((HB2.out.alloc HB2.out.size (.cells #[.int .i64 0, .slice none 0 0] 83)).drew.trans (hb.mono (HB2.out.alloc HB2.out.size (.cells #[.int .i64 0, .slice none 0 0] 83)).drew.size)).cell (p := ⟨pb, poff + q * 4, none⟩) HM.out.2).trans PP.out.1; have p1 := (((HB2.out.alloc HB2.out.size (.cells #[.int .i64 0, .slice none 0 0] 83)).drew.trans (hb.mono (HB2.out.alloc HB2.out.size (.cells #[.int .i64 0, .slice none 0 0] 83)).drew.size)).cell (p := ⟨pb, poff + q * 4 + 1, none⟩) HM.out.2).trans PP.out.2.1; have p2 := (((HB2.out.alloc HB2.out.size (.cells #[.int .i64 0, .slice none 0 0] 83)).drew.trans (hb.mono (HB2.out.alloc HB2.out.size (.cells #[.int .i64 0, .slice none 0 0] 83)).drew.size)).cell (p := ⟨pb, poff + q * 4 + 2, none⟩) HM.out.2).trans PP.out.2.2.1; have p3 := (((HB2.out.alloc HB2.out.size (.cells #[.int .i64 0, .slice none 0 0] 83)).drew.trans (hb.mono (HB2.out.alloc HB2.out.size (.cells #[.int .i64 0, .slice none 0 0] 83)).drew.size)).cell (p := ⟨pb, poff + q * 4 + 3, none⟩) HM.out.2).trans PP.out.2.2.2; have n0 := kb.cell 0 _ rfl; have a0 := k0.cell 0 _ rfl; have a1 := k0.cell 1 _ rfl; have a2 := k0.cell 2 _ rfl; have a3 := k0.cell 3 _ rfl; have v0 := k2.cell 0 _ rfl; have v1 := k2.cell 1 _ rfl; clear k0 k2; have bC := (BlkL.new WA [.int .i64 0, .slice none 0 0] 83).drew.below hb; have HB3 := Lib.hid ((HB2.out.alloc HB2.out.size (.cells #[.int .i64 0, .slice none 0 0] 83)).drew.trans (hb.mono (HB2.out.alloc HB2.out.size (.cells #[.int .i64 0, .slice none 0 0] 83)).drew.size)); have hs3 : WA.heap.size + 1 ≤ w3.heap.size := szB hb (show WA.heap.size + 1 ≤ (WA.alloc (.cells #[.int .i64 0, .slice none 0 0] 83)).heap.size by simp); have HO := Lib.hid ho; clear hb ho; have xC0 := bC.cell 0 _ rfl; have xC1 := bC.cell 1 _ rfl; have gC0 := bC.froz 0 (by simp); have gC1 := bC.froz 1 (by simp); have lC := bC.lt; have HC := Lib.hid bC; clear bC; have s31 : w3.heap.size < w3.heap.size + 1 := Nat.lt_succ_self _; have l1C := Nat.lt_succ_of_lt lC; have L1 := Lib.hid k1; have LB := Lib.hid kb; clear k1 kb) | (with_reducible refine (HD.out ((WA.alloc (.cells #[.int .i64 0, .bool false, .int .i64 0, .int .i64 0, .int .i64 0, .int .i64 0] 42)).alloc (.cells #[.int .i64 0, .slice none 0 0] 83)).drew ((HB2.out.alloc HB2.out.size (.cells #[.int .i64 0, .bool false, .int .i64 0, .int .i64 0, .int .i64 0, .int .i64 0] 42)).alloc (HB2.out.alloc HB2.out.size (.cells #[.int .i64 0, .bool false, .int .i64 0, .int .i64 0, .int .i64 0, .int .i64 0] 42)).size (.cells #[.int .i64 0, .slice none 0 0] 83)).drew).mono ?_; rintro e w3 ⟨A', m', k', rfl, ho, hb⟩; clear a0 a1 a2 a3 n0 v0 v1 p0 p1 p2 p3; have k1 := ((K1.out.alloc (.cells #[.int .i64 0, .bool false, .int .i64 0, .int .i64 0, .int .i64 0, .int .i64 0] 42)).alloc (.cells #[.int .i64 0, .slice none 0 0] 83)).drew.below hb; have kb := ((KB1.out.alloc (.cells #[.int .i64 0, .bool false, .int .i64 0, .int .i64 0, .int .i64 0, .int .i64 0] 42)).alloc (.cells #[.int .i64 0, .slice none 0 0] 83)).drew.below hb; have k0 := ((K0.out.alloc (.cells #[.int .i64 0, .bool false, .int .i64 0, .int .i64 0, .int .i64 0, .int .i64 0] 42)).alloc (.cells #[.int .i64 0, .slice none 0 0] 83)).drew.below hb; have k2 := ((K2.out.alloc (.cells #[.int .i64 0, .bool false, .int .i64 0, .int .i64 0, .int .i64 0, .int .i64 0] 42)).alloc (.cells #[.int .i64 0, .slice none 0 0] 83)).drew.below hb; have p0 := ((((HB2.out.alloc HB2.out.size (.cells #[.int .i64 0, .bool false, .int .i64 0, .int .i64 0, .int .i64 0, .int .i64 0] 42)).alloc (HB2.out.alloc HB2.out.size (.cells #[.int .i64 0, .bool false, .int .i64 0, .int .i64 0, .int .i64 0, .int .i64 0] 42)).size (.cells #[.int .i64 0, .slice none 0 0] 83)).drew.trans (hb.mono ((HB2.out.alloc HB2.out.size (.cells #[.int .i64 0, .bool false, .int .i64 0, .int .i64 0, .int .i64 0, .int .i64 0] 42)).alloc (HB2.out.alloc HB2.out.size (.cells #[.int .i64 0, .bool false, .int .i64 0, .int .i64 0, .int .i64 0, .int .i64 0] 42)).size (.cells #[.int .i64 0, .slice none 0 0] 83)).drew.size)).cell (p := ⟨pb, poff + q * 4, none⟩) HM.out.2).trans PP.out.1; have p1 := ((((HB2.out.alloc HB2.out.size (.cells #[.int .i64 0, .bool false, .int .i64 0, .int .i64 0, .int .i64 0, .int .i64 0] 42)).alloc (HB2.out.alloc HB2.out.size (.cells #[.int .i64 0, .bool false, .int .i64 0, .int .i64 0, .int .i64 0, .int .i64 0] 42)).size (.cells #[.int .i64 0, .slice none 0 0] 83)).drew.trans (hb.mono ((HB2.out.alloc HB2.out.size (.cells #[.int .i64 0, .bool false, .int .i64 0, .int .i64 0, .int .i64 0, .int .i64 0] 42)).alloc (HB2.out.alloc HB2.out.size (.cells #[.int .i64 0, .bool false, .int .i64 0, .int .i64 0, .int .i64 0, .int .i64 0] 42)).size (.cells #[.int .i64 0, .slice none 0 0] 83)).drew.size)).cell (p := ⟨pb, poff + q * 4 + 1, none⟩) HM.out.2).trans PP.out.2.1; have p2 := ((((HB2.out.alloc HB2.out.size (.cells #[.int .i64 0, .bool false, .int .i64 0, .int .i64 0, .int .i64 0, .int .i64 0] 42)).alloc (HB2.out.alloc HB2.out.size (.cells #[.int .i64 0, .bool false, .int .i64 0, .int .i64 0, .int .i64 0, .int .i64 0] 42)).size (.cells #[.int .i64 0, .slice none 0 0] 83)).drew.trans (hb.mono ((HB2.out.alloc HB2.out.size (.cells #[.int .i64 0, .bool false, .int .i64 0, .int .i64 0, .int .i64 0, .int .i64 0] 42)).alloc (HB2.out.alloc HB2.out.size (.cells #[.int .i64 0, .bool false, .int .i64 0, .int .i64 0, .int .i64 0, .int .i64 0] 42)).size (.cells #[.int .i64 0, .slice none 0 0] 83)).drew.size)).cell (p := ⟨pb, poff + q * 4 + 2, none⟩) HM.out.2).trans PP.out.2.2.1; have p3 := ((((HB2.out.alloc HB2.out.size (.cells #[.int .i64 0, .bool false, .int .i64 0, .int .i64 0, .int .i64 0, .int .i64 0] 42)).alloc (HB2.out.alloc HB2.out.size (.cells #[.int .i64 0, .bool false, .int .i64 0, .int .i64 0, .int .i64 0, .int .i64 0] 42)).size (.cells #[.int .i64 0, .slice none 0 0] 83)).drew.trans (hb.mono ((HB2.out.alloc HB2.out.size (.cells #[.int .i64 0, .bool false, .int .i64 0, .int .i64 0, .int .i64 0, .int .i64 0] 42)).alloc (HB2.out.alloc HB2.out.size (.cells #[.int .i64 0, .bool false, .int .i64 0, .int .i64 0, .int .i64 0, .int .i64 0] 42)).size (.cells #[.int .i64 0, .slice none 0 0] 83)).drew.size)).cell (p := ⟨pb, poff + q * 4 + 3, none⟩) HM.out.2).trans PP.out.2.2.2; have n0 := kb.cell 0 _ rfl; have a0 := k0.cell 0 _ rfl; have a1 := k0.cell 1 _ rfl; have a2 := k0.cell 2 _ rfl; have a3 := k0.cell 3 _ rfl; have v0 := k2.cell 0 _ rfl; have v1 := k2.cell 1 _ rfl; clear k0 k2; have bR := ((BlkL.new WA [.int .i64 0, .bool false, .int .i64 0, .int .i64 0, .int .i64 0, .int .i64 0] 42).alloc (.cells #[.int .i64 0, .slice none 0 0] 83)).drew.below hb; have bC := (BlkL.new (WA.alloc (.cells #[.int .i64 0, .bool false, .int .i64 0, .int .i64 0, .int .i64 0, .int .i64 0] 42)) [.int .i64 0, .slice none 0 0] 83).drew.below hb; simp only [World.size_alloc] at bC; have HB3 := Lib.hid (((HB2.out.alloc HB2.out.size (.cells #[.int .i64 0, .bool false, .int .i64 0, .int .i64 0, .int .i64 0, .int .i64 0] 42)).alloc (HB2.out.alloc HB2.out.size (.cells #[.int .i64 0, .bool false, .int .i64 0, .int .i64 0, .int .i64 0, .int .i64 0] 42)).size (.cells #[.int .i64 0, .slice none 0 0] 83)).drew.trans (hb.mono ((HB2.out.alloc HB2.out.size (.cells #[.int .i64 0, .bool false, .int .i64 0, .int .i64 0, .int .i64 0, .int .i64 0] 42)).alloc (HB2.out.alloc HB2.out.size (.cells #[.int .i64 0, .bool false, .int .i64 0, .int .i64 0, .int .i64 0, .int .i64 0] 42)).size (.cells #[.int .i64 0, .slice none 0 0] 83)).drew.size)); have hs3 : WA.heap.size + 2 ≤ w3.heap.size := szB hb (show WA.heap.size + 2 ≤ ((WA.alloc (.cells #[.int .i64 0, .bool false, .int .i64 0, .int .i64 0, .int .i64 0, .int .i64 0] 42)).alloc (.cells #[.int .i64 0, .slice none 0 0] 83)).heap.size by simp); have HO := Lib.hid ho; clear hb ho; have xR0 := bR.cell 0 _ rfl; have xR1 := bR.cell 1 _ rfl; have xR2 := bR.cell 2 _ rfl; have xR3 := bR.cell 3 _ rfl; have xR4 := bR.cell 4 _ rfl; have xR5 := bR.cell 5 _ rfl; have gR0 := bR.froz 0 (by simp); have gR1 := bR.froz 1 (by simp); have gR2 := bR.froz 2 (by simp); have gR3 := bR.froz 3 (by simp); have gR4 := bR.froz 4 (by simp); have gR5 := bR.froz 5 (by simp); have lR := bR.lt; have HR := Lib.hid bR; clear bR; have xC0 := bC.cell 0 _ rfl; have xC1 := bC.cell 1 _ rfl; have gC0 := bC.froz 0 (by simp); have gC1 := bC.froz 1 (by simp); have lC := bC.lt; have HC := Lib.hid bC; clear bC; have s31 : w3.heap.size < w3.heap.size + 1 := Nat.lt_succ_self _; have l1R := Nat.lt_succ_of_lt lR; have l1C := Nat.lt_succ_of_lt lC; have L1 := Lib.hid k1; have LB := Lib.hid kb; clear k1 kb) | (with_reducible refine (HD.out ((WA.alloc (.cells #[.int .i64 0, .slice none 0 0] 83)).alloc (.cells #[.int .i64 0, .bool false, .int .i64 0, .int .i64 0, .int .i64 0, .int .i64 0] 42)).drew ((HB2.out.alloc HB2.out.size (.cells #[.int .i64 0, .slice none 0 0] 83)).alloc (HB2.out.alloc HB2.out.size (.cells #[.int .i64 0, .slice none 0 0] 83)).size (.cells #[.int .i64 0, .bool false, .int .i64 0, .int .i64 0, .int .i64 0, .int .i64 0] 42)).drew).mono ?_; rintro e w3 ⟨A', m', k', rfl, ho, hb⟩; clear a0 a1 a2 a3 n0 v0 v1 p0 p1 p2 p3; have k1 := ((K1.out.alloc (.cells #[.int .i64 0, .slice none 0 0] 83)).alloc (.cells #[.int .i64 0, .bool false, .int .i64 0, .int .i64 0, .int .i64 0, .int .i64 0] 42)).drew.below hb; have kb := ((KB1.out.alloc (.cells #[.int .i64 0, .slice none 0 0] 83)).alloc (.cells #[.int .i64 0, .bool false, .int .i64 0, .int .i64 0, .int .i64 0, .int .i64 0] 42)).drew.below hb; have k0 := ((K0.out.alloc (.cells #[.int .i64 0, .slice none 0 0] 83)).alloc (.cells #[.int .i64 0, .bool false, .int .i64 0, .int .i64 0, .int .i64 0, .int .i64 0] 42)).drew.below hb; have k2 := ((K2.out.alloc (.cells #[.int .i64 0, .slice none 0 0] 83)).alloc (.cells #[.int .i64 0, .bool false, .int .i64 0, .int .i64 0, .int .i64 0, .int .i64 0] 42)).drew.below hb; have p0 := ((((HB2.out.alloc HB2.out.size (.cells #[.int .i64 0, .slice none 0 0] 83)).alloc (HB2.out.alloc HB2.out.size (.cells #[.int .i64 0, .slice none 0 0] 83)).size (.cells #[.int .i64 0, .bool false, .int .i64 0, .int .i64 0, .int .i64 0, .int .i64 0] 42)).drew.trans (hb.mono ((HB2.out.alloc HB2.out.size (.cells #[.int .i64 0, .slice none 0 0] 83)).alloc (HB2.out.alloc HB2.out.size (.cells #[.int .i64 0, .slice none 0 0] 83)).size (.cells #[.int .i64 0, .bool false, .int .i64 0, .int .i64 0, .int .i64 0, .int .i64 0] 42)).drew.size)).cell (p := ⟨pb, poff + q * 4, none⟩) HM.out.2).trans PP.out.1; have p1 := ((((HB2.out.alloc HB2.out.size (.cells #[.int .i64 0, .slice none 0 0] 83)).alloc (HB2.out.alloc HB2.out.size (.cells #[.int .i64 0, .slice none 0 0] 83)).size (.cells #[.int .i64 0, .bool false, .int .i64 0, .int .i64 0, .int .i64 0, .int .i64 0] 42)).drew.trans (hb.mono ((HB2.out.alloc HB2.out.size (.cells #[.int .i64 0, .slice none 0 0] 83)).alloc (HB2.out.alloc HB2.out.size (.cells #[.int .i64 0, .slice none 0 0] 83)).size (.cells #[.int .i64 0, .bool false, .int .i64 0, .int .i64 0, .int .i64 0, .int .i64 0] 42)).drew.size)).cell (p := ⟨pb, poff + q * 4 + 1, none⟩) HM.out.2).trans PP.out.2.1; have p2 := ((((HB2.out.alloc HB2.out.size (.cells #[.int .i64 0, .slice none 0 0] 83)).alloc (HB2.out.alloc HB2.out.size (.cells #[.int .i64 0, .slice none 0 0] 83)).size (.cells #[.int .i64 0, .bool false, .int .i64 0, .int .i64 0, .int .i64 0, .int .i64 0] 42)).drew.trans (hb.mono ((HB2.out.alloc HB2.out.size (.cells #[.int .i64 0, .slice none 0 0] 83)).alloc (HB2.out.alloc HB2.out.size (.cells #[.int .i64 0, .slice none 0 0] 83)).size (.cells #[.int .i64 0, .bool false, .int .i64 0, .int .i64 0, .int .i64 0, .int .i64 0] 42)).drew.size)).cell (p := ⟨pb, poff + q * 4 + 2, none⟩) HM.out.2).trans PP.out.2.2.1; have p3 := ((((HB2.out.alloc HB2.out.size (.cells #[.int .i64 0, .slice none 0 0] 83)).alloc (HB2.out.alloc HB2.out.size (.cells #[.int .i64 0, .slice none 0 0] 83)).size (.cells #[.int .i64 0, .bool false, .int .i64 0, .int .i64 0, .int .i64 0, .int .i64 0] 42)).drew.trans (hb.mono ((HB2.out.alloc HB2.out.size (.cells #[.int .i64 0, .slice none 0 0] 83)).alloc (HB2.out.alloc HB2.out.size (.cells #[.int .i64 0, .slice none 0 0] 83)).size (.cells #[.int .i64 0, .bool false, .int .i64 0, .int .i64 0, .int .i64 0, .int .i64 0] 42)).drew.size)).cell (p := ⟨pb, poff + q * 4 + 3, none⟩) HM.out.2).trans PP.out.2.2.2; have n0 := kb.cell 0 _ rfl; have a0 := k0.cell 0 _ rfl; have a1 := k0.cell 1 _ rfl; have a2 := k0.cell 2 _ rfl; have a3 := k0.cell 3 _ rfl; have v0 := k2.cell 0 _ rfl; have v1 := k2.cell 1 _ rfl; clear k0 k2; have bC := ((BlkL.new WA [.int .i64 0, .slice none 0 0] 83).alloc (.cells #[.int .i64 0, .bool false, .int .i64 0, .int .i64 0, .int .i64 0, .int .i64 0] 42)).drew.below hb; have bR := (BlkL.new (WA.alloc (.cells #[.int .i64 0, .slice none 0 0] 83)) [.int .i64 0, .bool false, .int .i64 0, .int .i64 0, .int .i64 0, .int .i64 0] 42).drew.below hb; simp only [World.size_alloc] at bR; have HB3 := Lib.hid (((HB2.out.alloc HB2.out.size (.cells #[.int .i64 0, .slice none 0 0] 83)).alloc (HB2.out.alloc HB2.out.size (.cells #[.int .i64 0, .slice none 0 0] 83)).size (.cells #[.int .i64 0, .bool false, .int .i64 0, .int .i64 0, .int .i64 0, .int .i64 0] 42)).drew.trans (hb.mono ((HB2.out.alloc HB2.out.size (.cells #[.int .i64 0, .slice none 0 0] 83)).alloc (HB2.out.alloc HB2.out.size (.cells #[.int .i64 0, .slice none 0 0] 83)).size (.cells #[.int .i64 0, .bool false, .int .i64 0, .int .i64 0, .int .i64 0, .int .i64 0] 42)).drew.size)); have hs3 : WA.heap.size + 2 ≤ w3.heap.size := szB hb (show WA.heap.size + 2 ≤ ((WA.alloc (.cells #[.int .i64 0, .slice none 0 0] 83)).alloc (.cells #[.int .i64 0, .bool false, .int .i64 0, .int .i64 0, .int .i64 0, .int .i64 0] 42)).heap.size by simp); have HO := Lib.hid ho; clear hb ho; have xR0 := bR.cell 0 _ rfl; have xR1 := bR.cell 1 _ rfl; have xR2 := bR.cell 2 _ rfl; have xR3 := bR.cell 3 _ rfl; have xR4 := bR.cell 4 _ rfl; have xR5 := bR.cell 5 _ rfl; have gR0 := bR.froz 0 (by simp); have gR1 := bR.froz 1 (by simp); have gR2 := bR.froz 2 (by simp); have gR3 := bR.froz 3 (by simp); have gR4 := bR.froz 4 (by simp); have gR5 := bR.froz 5 (by simp); have lR := bR.lt; have HR := Lib.hid bR; clear bR; have xC0 := bC.cell 0 _ rfl; have xC1 := bC.cell 1 _ rfl; have gC0 := bC.froz 0 (by simp); have gC1 := bC.froz 1 (by simp); have lC := bC.lt; have HC := Lib.hid bC; clear bC; have s31 : w3.heap.size < w3.heap.size + 1 := Nat.lt_succ_self _; have l1C := Nat.lt_succ_of_lt lC; have l1R := Nat.lt_succ_of_lt lR; have L1 := Lib.hid k1; have LB := Lib.hid kb; clear k1 kb)))
  · rename_i hHd
    clear hHd
    have bR := ((BlkL.new w3 [.int .i64 r0, .bool r1, .int .i64 r2, .int .i64 r3, .int .i64 r4, .int .i64 r5] 42).alloc (.cells #[.int .i64 t', .slice A' m' k'] 83))
    have bC := (BlkL.new (w3.alloc (.cells #[.int .i64 r0, .bool r1, .int .i64 r2, .int .i64 r3, .int .i64 r4, .int .i64 r5] 42)) [.int .i64 t', .slice A' m' k'] 83)
    have k1 := ((L1.out.alloc (.cells #[.int .i64 r0, .bool r1, .int .i64 r2, .int .i64 r3, .int .i64 r4, .int .i64 r5] 42)).alloc (.cells #[.int .i64 t', .slice A' m' k'] 83))
    have kb := ((LB.out.alloc (.cells #[.int .i64 r0, .bool r1, .int .i64 r2, .int .i64 r3, .int .i64 r4, .int .i64 r5] 42)).alloc (.cells #[.int .i64 t', .slice A' m' k'] 83))
    have hb := ((HB3.out.alloc HB3.out.size (.cells #[.int .i64 r0, .bool r1, .int .i64 r2, .int .i64 r3, .int .i64 r4, .int .i64 r5] 42)).alloc (HB3.out.alloc HB3.out.size (.cells #[.int .i64 r0, .bool r1, .int .i64 r2, .int .i64 r3, .int .i64 r4, .int .i64 r5] 42)).size (.cells #[.int .i64 t', .slice A' m' k'] 83))
    have ha := (((Above.refl (WA.drew.heap.size) w3).alloc (.cells #[.int .i64 r0, .bool r1, .int .i64 r2, .int .i64 r3, .int .i64 r4, .int .i64 r5] 42)).alloc (.cells #[.int .i64 t', .slice A' m' k'] 83))
    simp only [World.size_alloc, List.toArray] at bR bC
    have hz1 : w.heap.size + 1 ≠ w3.heap.size := by have := HY.out.1; omega
    clear y0 y2 yb yp n0 a0 a1 a2 a3 v0 v1 p0 p1 p2 p3  s31
    generalize World.alloc _ _ = WE at bR bC k1 kb hb ha ⊢
    have n1 := kb.cell 1 _ rfl
    have n2 := kb.cell 2 _ rfl
    have hlen := HN.out WE.drew hb.drew
    have v0 := bC.cell 0 _ rfl
    have v1 := bC.cell 1 _ rfl
    have d0 := k1.cell 0 _ rfl
    have d1 := k1.cell 1 _ rfl
    have d2 := k1.cell 2 _ rfl
    have d3 := k1.cell 3 _ rfl
    have d4 := k1.cell 4 _ rfl
    have d5 := k1.cell 5 _ rfl
    have f0 := k1.froz 0 (by simp)
    have f1 := k1.froz 1 (by simp)
    have f2 := k1.froz 2 (by simp)
    have f3 := k1.froz 3 (by simp)
    have f4 := k1.froz 4 (by simp)
    have f5 := k1.froz 5 (by simp)
    have K9 := Lib.hid k1
    have HB9 := Lib.hid hb
    clear bR bC k1 kb hb ha HO HD L1 LB HB3 HKB KB1 K0 K1 K2 HB2
    go_wp2_with fail
    go_region
    go_wp2_with fail
    have bz := (K9.out.put6 (.int .i64 10) (.bool false) (.int .i64 0) (.int .i64 0) (.int .i64 0) (.int .i64 0)).drew
    have hb := (below_put6 HB9.out (b := w.heap.size + 1) (by omega) (.int .i64 10) (.bool false) (.int .i64 0) (.int .i64 0) (.int .i64 0) (.int .i64 0)).drew
    have e0 := bz.cell 0 _ rfl
    have e1 := bz.cell 1 _ rfl
    have e2 := bz.cell 2 _ rfl
    have e3 := bz.cell 3 _ rfl
    have e4 := bz.cell 4 _ rfl
    have e5 := bz.cell 5 _ rfl
    clear bz K9 HB9 n1 n2 hlen v0 v1 d0 f0 d1 f1 d2 f2 d3 f3 d4 f4 d5 f5
    generalize World.drew _ = WZ at e0 e1 e2 e3 e4 e5 hb ⊢
    exact bodyPost_ret (v := .agg #[.int .i64 10, .bool false, .int .i64 0, .int .i64 0, .int .i64 0, .int .i64 0]) (by simp [results, Try.results35, go_sem, e0, e1, e2, e3, e4, e5]) rfl ⟨rfl, hb⟩
  · rename_i hHd
    clear hHd
    have bR := (BlkL.new (w3.alloc (.cells #[.int .i64 t', .slice A' m' k'] 83)) [.int .i64 r0, .bool r1, .int .i64 r2, .int .i64 r3, .int .i64 r4, .int .i64 r5] 42)
    have bC := ((BlkL.new w3 [.int .i64 t', .slice A' m' k'] 83).alloc (.cells #[.int .i64 r0, .bool r1, .int .i64 r2, .int .i64 r3, .int .i64 r4, .int .i64 r5] 42))
    have k1 := ((L1.out.alloc (.cells #[.int .i64 t', .slice A' m' k'] 83)).alloc (.cells #[.int .i64 r0, .bool r1, .int .i64 r2, .int .i64 r3, .int .i64 r4, .int .i64 r5] 42))
    have kb := ((LB.out.alloc (.cells #[.int .i64 t', .slice A' m' k'] 83)).alloc (.cells #[.int .i64 r0, .bool r1, .int .i64 r2, .int .i64 r3, .int .i64 r4, .int .i64 r5] 42))
    have hb := ((HB3.out.alloc HB3.out.size (.cells #[.int .i64 t', .slice A' m' k'] 83)).alloc (HB3.out.alloc HB3.out.size (.cells #[.int .i64 t', .slice A' m' k'] 83)).size (.cells #[.int .i64 r0, .bool r1, .int .i64 r2, .int .i64 r3, .int .i64 r4, .int .i64 r5] 42))
    have ha := (((Above.refl (WA.drew.heap.size) w3).alloc (.cells #[.int .i64 t', .slice A' m' k'] 83)).alloc (.cells #[.int .i64 r0, .bool r1, .int .i64 r2, .int .i64 r3, .int .i64 r4, .int .i64 r5] 42))
    simp only [World.size_alloc, List.toArray] at bR bC
    have hz1 : w.heap.size + 1 ≠ w3.heap.size + 1 := by have := HY.out.1; omega
    clear y0 y2 yb yp n0 a0 a1 a2 a3 v0 v1 p0 p1 p2 p3  s31
    generalize World.alloc _ _ = WE at bR bC k1 kb hb ha ⊢
    have n1 := kb.cell 1 _ rfl
    have n2 := kb.cell 2 _ rfl
    have hlen := HN.out WE.drew hb.drew
    have v0 := bC.cell 0 _ rfl
    have v1 := bC.cell 1 _ rfl
    have d0 := k1.cell 0 _ rfl
    have d1 := k1.cell 1 _ rfl
    have d2 := k1.cell 2 _ rfl
    have d3 := k1.cell 3 _ rfl
    have d4 := k1.cell 4 _ rfl
    have d5 := k1.cell 5 _ rfl
    have f0 := k1.froz 0 (by simp)
    have f1 := k1.froz 1 (by simp)
    have f2 := k1.froz 2 (by simp)
    have f3 := k1.froz 3 (by simp)
    have f4 := k1.froz 4 (by simp)
    have f5 := k1.froz 5 (by simp)
    have K9 := Lib.hid k1
    have HB9 := Lib.hid hb
    clear bR bC k1 kb hb ha HO HD L1 LB HB3 HKB KB1 K0 K1 K2 HB2
    go_wp2_with fail
    go_region
    go_wp2_with fail
    have bz := (K9.out.put6 (.int .i64 10) (.bool false) (.int .i64 0) (.int .i64 0) (.int .i64 0) (.int .i64 0)).drew
    have hb := (below_put6 HB9.out (b := w.heap.size + 1) (by omega) (.int .i64 10) (.bool false) (.int .i64 0) (.int .i64 0) (.int .i64 0) (.int .i64 0)).drew
    have e0 := bz.cell 0 _ rfl
    have e1 := bz.cell 1 _ rfl
    have e2 := bz.cell 2 _ rfl
    have e3 := bz.cell 3 _ rfl
    have e4 := bz.cell 4 _ rfl
    have e5 := bz.cell 5 _ rfl
    clear bz K9 HB9 n1 n2 hlen v0 v1 d0 f0 d1 f1 d2 f2 d3 f3 d4 f4 d5 f5
    generalize World.drew _ = WZ at e0 e1 e2 e3 e4 e5 hb ⊢
    exact bodyPost_ret (v := .agg #[.int .i64 10, .bool false, .int .i64 0, .int .i64 0, .int .i64 0, .int .i64 0]) (by simp [results, Try.results35, go_sem, e0, e1, e2, e3, e4, e5]) rfl ⟨rfl, hb⟩
  · rename_i hHd
    clear hHd
    have bR := ((HR.out.put6 (.int .i64 r0) (.bool r1) (.int .i64 r2) (.int .i64 r3) (.int .i64 r4) (.int .i64 r5)).alloc (.cells #[.int .i64 t', .slice A' m' k'] 83))
    have bC := (BlkL.new ((((((w3.setCell ⟨WA.heap.size, 0, none⟩ (.int .i64 r0)).setCell ⟨WA.heap.size, 1, none⟩ (.bool r1)).setCell ⟨WA.heap.size, 2, none⟩ (.int .i64 r2)).setCell ⟨WA.heap.size, 3, none⟩ (.int .i64 r3)).setCell ⟨WA.heap.size, 4, none⟩ (.int .i64 r4)).setCell ⟨WA.heap.size, 5, none⟩ (.int .i64 r5)) [.int .i64 t', .slice A' m' k'] 83)
    have k1 := ((L1.out.other6 (b' := WA.heap.size) (by have := HY.out.1; omega) (.int .i64 r0) (.bool r1) (.int .i64 r2) (.int .i64 r3) (.int .i64 r4) (.int .i64 r5)).alloc (.cells #[.int .i64 t', .slice A' m' k'] 83))
    have kb := ((LB.out.other6 (b' := WA.heap.size) (by have := HY.out.2; omega) (.int .i64 r0) (.bool r1) (.int .i64 r2) (.int .i64 r3) (.int .i64 r4) (.int .i64 r5)).alloc (.cells #[.int .i64 t', .slice A' m' k'] 83))
    have hb := ((below_put6 HB3.out (b := WA.heap.size) (by have := HB2.out.size; omega) (.int .i64 r0) (.bool r1) (.int .i64 r2) (.int .i64 r3) (.int .i64 r4) (.int .i64 r5)).alloc (below_put6 HB3.out (b := WA.heap.size) (by have := HB2.out.size; omega) (.int .i64 r0) (.bool r1) (.int .i64 r2) (.int .i64 r3) (.int .i64 r4) (.int .i64 r5)).size (.cells #[.int .i64 t', .slice A' m' k'] 83))
    have ha := (((Above.refl ((WA.alloc (.cells #[.int .i64 0, .bool false, .int .i64 0, .int .i64 0, .int .i64 0, .int .i64 0] 42)).drew.heap.size) w3).put6 (b := WA.heap.size) (show WA.heap.size < ((WA.alloc (.cells #[.int .i64 0, .bool false, .int .i64 0, .int .i64 0, .int .i64 0, .int .i64 0] 42))).heap.size by simp only [World.size_alloc]; omega) (.int .i64 r0) (.bool r1) (.int .i64 r2) (.int .i64 r3) (.int .i64 r4) (.int .i64 r5)).alloc (.cells #[.int .i64 t', .slice A' m' k'] 83))
    simp only [size_sets, List.toArray] at bR bC
    have hz1 : w.heap.size + 1 ≠ WA.heap.size := by have := HY.out.1; omega
    clear y0 y2 yb yp n0 a0 a1 a2 a3 v0 v1 p0 p1 p2 p3 xR0 gR0 xR1 gR1 xR2 gR2 xR3 gR3 xR4 gR4 xR5 gR5 lR l1R HR s31
    generalize World.alloc _ _ = WE at bR bC k1 kb hb ha ⊢
    have n1 := kb.cell 1 _ rfl
    have n2 := kb.cell 2 _ rfl
    have hlen := HN.out WE.drew hb.drew
    have v0 := bC.cell 0 _ rfl
    have v1 := bC.cell 1 _ rfl
    have d0 := k1.cell 0 _ rfl
    have d1 := k1.cell 1 _ rfl
    have d2 := k1.cell 2 _ rfl
    have d3 := k1.cell 3 _ rfl
    have d4 := k1.cell 4 _ rfl
    have d5 := k1.cell 5 _ rfl
    have f0 := k1.froz 0 (by simp)
    have f1 := k1.froz 1 (by simp)
    have f2 := k1.froz 2 (by simp)
    have f3 := k1.froz 3 (by simp)
    have f4 := k1.froz 4 (by simp)
    have f5 := k1.froz 5 (by simp)
    have K9 := Lib.hid k1
    have HB9 := Lib.hid hb
    clear bR bC k1 kb hb ha HO HD L1 LB HB3 HKB KB1 K0 K1 K2 HB2
    go_wp2_with fail
    go_region
    go_wp2_with fail
    have bz := (K9.out.put6 (.int .i64 10) (.bool false) (.int .i64 0) (.int .i64 0) (.int .i64 0) (.int .i64 0)).drew
    have hb := (below_put6 HB9.out (b := w.heap.size + 1) (by omega) (.int .i64 10) (.bool false) (.int .i64 0) (.int .i64 0) (.int .i64 0) (.int .i64 0)).drew
    have e0 := bz.cell 0 _ rfl
    have e1 := bz.cell 1 _ rfl
    have e2 := bz.cell 2 _ rfl
    have e3 := bz.cell 3 _ rfl
    have e4 := bz.cell 4 _ rfl
    have e5 := bz.cell 5 _ rfl
    clear bz K9 HB9 n1 n2 hlen v0 v1 d0 f0 d1 f1 d2 f2 d3 f3 d4 f4 d5 f5
    generalize World.drew _ = WZ at e0 e1 e2 e3 e4 e5 hb ⊢
    exact bodyPost_ret (v := .agg #[.int .i64 10, .bool false, .int .i64 0, .int .i64 0, .int .i64 0, .int .i64 0]) (by simp [results, Try.results35, go_sem, e0, e1, e2, e3, e4, e5]) rfl ⟨rfl, hb⟩
  · rename_i hHd
    clear hHd
    have bR := ((HR.out.put6 (.int .i64 r0) (.bool r1) (.int .i64 r2) (.int .i64 r3) (.int .i64 r4) (.int .i64 r5)).other2 (b' := WA.heap.size + 1) (by omega) (.int .i64 t') (.slice A' m' k'))
    have bC := ((HC.out.other6 (b' := WA.heap.size) (by omega) (.int .i64 r0) (.bool r1) (.int .i64 r2) (.int .i64 r3) (.int .i64 r4) (.int .i64 r5)).put2 (.int .i64 t') (.slice A' m' k'))
    have k1 := ((L1.out.other6 (b' := WA.heap.size) (by have := HY.out.1; omega) (.int .i64 r0) (.bool r1) (.int .i64 r2) (.int .i64 r3) (.int .i64 r4) (.int .i64 r5)).other2 (b' := WA.heap.size + 1) (by have := HY.out.1; omega) (.int .i64 t') (.slice A' m' k'))
    have kb := ((LB.out.other6 (b' := WA.heap.size) (by have := HY.out.2; omega) (.int .i64 r0) (.bool r1) (.int .i64 r2) (.int .i64 r3) (.int .i64 r4) (.int .i64 r5)).other2 (b' := WA.heap.size + 1) (by have := HY.out.2; omega) (.int .i64 t') (.slice A' m' k'))
    have hb := (below_put2 (below_put6 HB3.out (b := WA.heap.size) (by have := HB2.out.size; omega) (.int .i64 r0) (.bool r1) (.int .i64 r2) (.int .i64 r3) (.int .i64 r4) (.int .i64 r5)) (b := WA.heap.size + 1) (by have := HB2.out.size; omega) (.int .i64 t') (.slice A' m' k'))
    have ha := (((Above.refl (((WA.alloc (.cells #[.int .i64 0, .bool false, .int .i64 0, .int .i64 0, .int .i64 0, .int .i64 0] 42)).alloc (.cells #[.int .i64 0, .slice none 0 0] 83)).drew.heap.size) w3).put6 (b := WA.heap.size) (show WA.heap.size < (((WA.alloc (.cells #[.int .i64 0, .bool false, .int .i64 0, .int .i64 0, .int .i64 0, .int .i64 0] 42)).alloc (.cells #[.int .i64 0, .slice none 0 0] 83))).heap.size by simp only [World.size_alloc]; omega) (.int .i64 r0) (.bool r1) (.int .i64 r2) (.int .i64 r3) (.int .i64 r4) (.int .i64 r5)).put2 (b := WA.heap.size + 1) (show WA.heap.size + 1 < (((WA.alloc (.cells #[.int .i64 0, .bool false, .int .i64 0, .int .i64 0, .int .i64 0, .int .i64 0] 42)).alloc (.cells #[.int .i64 0, .slice none 0 0] 83))).heap.size by simp only [World.size_alloc]; omega) (.int .i64 t') (.slice A' m' k'))
    have hz1 : w.heap.size + 1 ≠ WA.heap.size := by have := HY.out.1; omega
    clear y0 y2 yb yp n0 a0 a1 a2 a3 v0 v1 p0 p1 p2 p3 xR0 gR0 xR1 gR1 xR2 gR2 xR3 gR3 xR4 gR4 xR5 gR5 xC0 gC0 xC1 gC1 lR l1R HR lC l1C HC s31
    generalize World.setCell _ _ _ = WE at bR bC k1 kb hb ha ⊢
    have n1 := kb.cell 1 _ rfl
    have n2 := kb.cell 2 _ rfl
    have hlen := HN.out WE.drew hb.drew
    have v0 := bC.cell 0 _ rfl
    have v1 := bC.cell 1 _ rfl
    have d0 := k1.cell 0 _ rfl
    have d1 := k1.cell 1 _ rfl
    have d2 := k1.cell 2 _ rfl
    have d3 := k1.cell 3 _ rfl
    have d4 := k1.cell 4 _ rfl
    have d5 := k1.cell 5 _ rfl
    have f0 := k1.froz 0 (by simp)
    have f1 := k1.froz 1 (by simp)
    have f2 := k1.froz 2 (by simp)
    have f3 := k1.froz 3 (by simp)
    have f4 := k1.froz 4 (by simp)
    have f5 := k1.froz 5 (by simp)
    have K9 := Lib.hid k1
    have HB9 := Lib.hid hb
    clear bR bC k1 kb hb ha HO HD L1 LB HB3 HKB KB1 K0 K1 K2 HB2
    go_wp2_with fail
    go_region
    go_wp2_with fail
    have bz := (K9.out.put6 (.int .i64 10) (.bool false) (.int .i64 0) (.int .i64 0) (.int .i64 0) (.int .i64 0)).drew
    have hb := (below_put6 HB9.out (b := w.heap.size + 1) (by omega) (.int .i64 10) (.bool false) (.int .i64 0) (.int .i64 0) (.int .i64 0) (.int .i64 0)).drew
    have e0 := bz.cell 0 _ rfl
    have e1 := bz.cell 1 _ rfl
    have e2 := bz.cell 2 _ rfl
    have e3 := bz.cell 3 _ rfl
    have e4 := bz.cell 4 _ rfl
    have e5 := bz.cell 5 _ rfl
    clear bz K9 HB9 n1 n2 hlen v0 v1 d0 f0 d1 f1 d2 f2 d3 f3 d4 f4 d5 f5
    generalize World.drew _ = WZ at e0 e1 e2 e3 e4 e5 hb ⊢
    exact bodyPost_ret (v := .agg #[.int .i64 10, .bool false, .int .i64 0, .int .i64 0, .int .i64 0, .int .i64 0]) (by simp [results, Try.results35, go_sem, e0, e1, e2, e3, e4, e5]) rfl ⟨rfl, hb⟩
  · rename_i hHd
    clear hHd
    have bR := (BlkL.new ((w3.setCell ⟨WA.heap.size, 0, none⟩ (.int .i64 t')).setCell ⟨WA.heap.size, 1, none⟩ (.slice A' m' k')) [.int .i64 r0, .bool r1, .int .i64 r2, .int .i64 r3, .int .i64 r4, .int .i64 r5] 42)
    have bC := ((HC.out.put2 (.int .i64 t') (.slice A' m' k')).alloc (.cells #[.int .i64 r0, .bool r1, .int .i64 r2, .int .i64 r3, .int .i64 r4, .int .i64 r5] 42))
    have k1 := ((L1.out.other2 (b' := WA.heap.size) (by have := HY.out.1; omega) (.int .i64 t') (.slice A' m' k')).alloc (.cells #[.int .i64 r0, .bool r1, .int .i64 r2, .int .i64 r3, .int .i64 r4, .int .i64 r5] 42))
    have kb := ((LB.out.other2 (b' := WA.heap.size) (by have := HY.out.2; omega) (.int .i64 t') (.slice A' m' k')).alloc (.cells #[.int .i64 r0, .bool r1, .int .i64 r2, .int .i64 r3, .int .i64 r4, .int .i64 r5] 42))
    have hb := ((below_put2 HB3.out (b := WA.heap.size) (by have := HB2.out.size; omega) (.int .i64 t') (.slice A' m' k')).alloc (below_put2 HB3.out (b := WA.heap.size) (by have := HB2.out.size; omega) (.int .i64 t') (.slice A' m' k')).size (.cells #[.int .i64 r0, .bool r1, .int .i64 r2, .int .i64 r3, .int .i64 r4, .int .i64 r5] 42))
    have ha := (((Above.refl ((WA.alloc (.cells #[.int .i64 0, .slice none 0 0] 83)).drew.heap.size) w3).put2 (b := WA.heap.size) (show WA.heap.size < ((WA.alloc (.cells #[.int .i64 0, .slice none 0 0] 83))).heap.size by simp only [World.size_alloc]; omega) (.int .i64 t') (.slice A' m' k')).alloc (.cells #[.int .i64 r0, .bool r1, .int .i64 r2, .int .i64 r3, .int .i64 r4, .int .i64 r5] 42))
    simp only [size_sets, List.toArray] at bR bC
    have hz1 : w.heap.size + 1 ≠ w3.heap.size := by have := HY.out.1; omega
    clear y0 y2 yb yp n0 a0 a1 a2 a3 v0 v1 p0 p1 p2 p3 xC0 gC0 xC1 gC1 lC l1C HC s31
    generalize World.alloc _ _ = WE at bR bC k1 kb hb ha ⊢
    have n1 := kb.cell 1 _ rfl
    have n2 := kb.cell 2 _ rfl
    have hlen := HN.out WE.drew hb.drew
    have v0 := bC.cell 0 _ rfl
    have v1 := bC.cell 1 _ rfl
    have d0 := k1.cell 0 _ rfl
    have d1 := k1.cell 1 _ rfl
    have d2 := k1.cell 2 _ rfl
    have d3 := k1.cell 3 _ rfl
    have d4 := k1.cell 4 _ rfl
    have d5 := k1.cell 5 _ rfl
    have f0 := k1.froz 0 (by simp)
    have f1 := k1.froz 1 (by simp)
    have f2 := k1.froz 2 (by simp)
    have f3 := k1.froz 3 (by simp)
    have f4 := k1.froz 4 (by simp)
    have f5 := k1.froz 5 (by simp)
    have K9 := Lib.hid k1
    have HB9 := Lib.hid hb
    clear bR bC k1 kb hb ha HO HD L1 LB HB3 HKB KB1 K0 K1 K2 HB2
    go_wp2_with fail
    go_region
    go_wp2_with fail
    have bz := (K9.out.put6 (.int .i64 10) (.bool false) (.int .i64 0) (.int .i64 0) (.int .i64 0) (.int .i64 0)).drew
    have hb := (below_put6 HB9.out (b := w.heap.size + 1) (by omega) (.int .i64 10) (.bool false) (.int .i64 0) (.int .i64 0) (.int .i64 0) (.int .i64 0)).drew
    have e0 := bz.cell 0 _ rfl
    have e1 := bz.cell 1 _ rfl
    have e2 := bz.cell 2 _ rfl
    have e3 := bz.cell 3 _ rfl
    have e4 := bz.cell 4 _ rfl
    have e5 := bz.cell 5 _ rfl
    clear bz K9 HB9 n1 n2 hlen v0 v1 d0 f0 d1 f1 d2 f2 d3 f3 d4 f4 d5 f5
    generalize World.drew _ = WZ at e0 e1 e2 e3 e4 e5 hb ⊢
    exact bodyPost_ret (v := .agg #[.int .i64 10, .bool false, .int .i64 0, .int .i64 0, .int .i64 0, .int .i64 0]) (by simp [results, Try.results35, go_sem, e0, e1, e2, e3, e4, e5]) rfl ⟨rfl, hb⟩
  · rename_i hHd
    clear hHd
    have bR := ((HR.out.put6 (.int .i64 r0) (.bool r1) (.int .i64 r2) (.int .i64 r3) (.int .i64 r4) (.int .i64 r5)).other2 (b' := WA.heap.size) (by omega) (.int .i64 t') (.slice A' m' k'))
    have bC := ((HC.out.other6 (b' := WA.heap.size + 1) (by omega) (.int .i64 r0) (.bool r1) (.int .i64 r2) (.int .i64 r3) (.int .i64 r4) (.int .i64 r5)).put2 (.int .i64 t') (.slice A' m' k'))
    have k1 := ((L1.out.other6 (b' := WA.heap.size + 1) (by have := HY.out.1; omega) (.int .i64 r0) (.bool r1) (.int .i64 r2) (.int .i64 r3) (.int .i64 r4) (.int .i64 r5)).other2 (b' := WA.heap.size) (by have := HY.out.1; omega) (.int .i64 t') (.slice A' m' k'))
    have kb := ((LB.out.other6 (b' := WA.heap.size + 1) (by have := HY.out.2; omega) (.int .i64 r0) (.bool r1) (.int .i64 r2) (.int .i64 r3) (.int .i64 r4) (.int .i64 r5)).other2 (b' := WA.heap.size) (by have := HY.out.2; omega) (.int .i64 t') (.slice A' m' k'))
    have hb := (below_put2 (below_put6 HB3.out (b := WA.heap.size + 1) (by have := HB2.out.size; omega) (.int .i64 r0) (.bool r1) (.int .i64 r2) (.int .i64 r3) (.int .i64 r4) (.int .i64 r5)) (b := WA.heap.size) (by have := HB2.out.size; omega) (.int .i64 t') (.slice A' m' k'))
    have ha := (((Above.refl (((WA.alloc (.cells #[.int .i64 0, .slice none 0 0] 83)).alloc (.cells #[.int .i64 0, .bool false, .int .i64 0, .int .i64 0, .int .i64 0, .int .i64 0] 42)).drew.heap.size) w3).put6 (b := WA.heap.size + 1) (show WA.heap.size + 1 < (((WA.alloc (.cells #[.int .i64 0, .slice none 0 0] 83)).alloc (.cells #[.int .i64 0, .bool false, .int .i64 0, .int .i64 0, .int .i64 0, .int .i64 0] 42))).heap.size by simp only [World.size_alloc]; omega) (.int .i64 r0) (.bool r1) (.int .i64 r2) (.int .i64 r3) (.int .i64 r4) (.int .i64 r5)).put2 (b := WA.heap.size) (show WA.heap.size < (((WA.alloc (.cells #[.int .i64 0, .slice none 0 0] 83)).alloc (.cells #[.int .i64 0, .bool false, .int .i64 0, .int .i64 0, .int .i64 0, .int .i64 0] 42))).heap.size by simp only [World.size_alloc]; omega) (.int .i64 t') (.slice A' m' k'))
    have hz1 : w.heap.size + 1 ≠ WA.heap.size + 1 := by have := HY.out.1; omega
    clear y0 y2 yb yp n0 a0 a1 a2 a3 v0 v1 p0 p1 p2 p3 xC0 gC0 xC1 gC1 xR0 gR0 xR1 gR1 xR2 gR2 xR3 gR3 xR4 gR4 xR5 gR5 lC l1C HC lR l1R HR s31
    generalize World.setCell _ _ _ = WE at bR bC k1 kb hb ha ⊢
    have n1 := kb.cell 1 _ rfl
    have n2 := kb.cell 2 _ rfl
    have hlen := HN.out WE.drew hb.drew
    have v0 := bC.cell 0 _ rfl
    have v1 := bC.cell 1 _ rfl
    have d0 := k1.cell 0 _ rfl
    have d1 := k1.cell 1 _ rfl
    have d2 := k1.cell 2 _ rfl
    have d3 := k1.cell 3 _ rfl
    have d4 := k1.cell 4 _ rfl
    have d5 := k1.cell 5 _ rfl
    have f0 := k1.froz 0 (by simp)
    have f1 := k1.froz 1 (by simp)
    have f2 := k1.froz 2 (by simp)
    have f3 := k1.froz 3 (by simp)
    have f4 := k1.froz 4 (by simp)
    have f5 := k1.froz 5 (by simp)
    have K9 := Lib.hid k1
    have HB9 := Lib.hid hb
    clear bR bC k1 kb hb ha HO HD L1 LB HB3 HKB KB1 K0 K1 K2 HB2
    go_wp2_with fail
    go_region
    go_wp2_with fail
    have bz := (K9.out.put6 (.int .i64 10) (.bool false) (.int .i64 0) (.int .i64 0) (.int .i64 0) (.int .i64 0)).drew
    have hb := (below_put6 HB9.out (b := w.heap.size + 1) (by omega) (.int .i64 10) (.bool false) (.int .i64 0) (.int .i64 0) (.int .i64 0) (.int .i64 0)).drew
    have e0 := bz.cell 0 _ rfl
    have e1 := bz.cell 1 _ rfl
    have e2 := bz.cell 2 _ rfl
    have e3 := bz.cell 3 _ rfl
    have e4 := bz.cell 4 _ rfl
    have e5 := bz.cell 5 _ rfl
    clear bz K9 HB9 n1 n2 hlen v0 v1 d0 f0 d1 f1 d2 f2 d3 f3 d4 f4 d5 f5
    generalize World.drew _ = WZ at e0 e1 e2 e3 e4 e5 hb ⊢
    exact bodyPost_ret (v := .agg #[.int .i64 10, .bool false, .int .i64 0, .int .i64 0, .int .i64 0, .int .i64 0]) (by simp [results, Try.results35, go_sem, e0, e1, e2, e3, e4, e5]) rfl ⟨rfl, hb⟩
end Go.Proofs.Ytnkecjjfbllgdaa


/- Do of a call for which there is no room. -/
namespace Go.Proofs.Ytnkecjjfbllgdaa
open Go.RowKit Go.Maps
set_option maxRecDepth 100000
set_option linter.unusedVariables false

theorem book_full (w : World) (b n c room mb k op p kn kc now : Nat) (A KA : Option Addr) (l : List PolM) (M : BkMap) (N s : Int) (zs : List Nat)
    (hX : BkX w b A n c l room mb k M) (ho : 1 ≤ op ∧ op ≤ 4) (hp : p < l.length) (hkd : kindB op (l.getD p noPol).kind = true) (hkey : Arg w w.heap.size KA kn kc zs) (hkn : kn ≤ 255)
    (hN : op = 1 → isTick N = true) (hnow : now ≤ 4611686018427387903) (hs : op = 2 → 1 ≤ s ∧ s ≤ 4611686018427387903) (hk : k ≤ 1000000) (hno : M (p :: zs) = none) (hfu : room ≤ k) (hch : (cellM (l.getD p noPol) (getB M (p :: zs)) op N now s).2.2 = true) :
    Calls Try.prog 18 #[.pointer (some ⟨b, 0, none⟩), .agg #[.int .u8 (op : Nat), .int .i64 (p : Nat), .slice KA kn kc, .int .i64 N], .int .i64 (now : Nat), .int .i64 s] w
      fun e w' => e = .returned (repX ⟨10, false, 0, 0, 0, 0⟩) ∧ Below w.heap.size w w' := by
  have h := hX.r
  obtain ⟨D, hown, _, hM⟩ := h.map
  have hsz : Maps.size D = k := by
    obtain ⟨D', h1, h2⟩ := hX.e
    rw [own_uniq hown h1]
    exact h2
  have hlen := h.len
  have hkl := hkey.len
  have hroom := h.room
  have hz : ∀ d ∈ p :: zs, d < 256 := fun d hd => by
    rcases List.mem_cons.1 hd with rfl | hd
    · omega
    · exact hkey.byte d hd
  have hzl : (p :: zs).length ≤ 1000 := by simp; omega
  have hln : l.length = n := by have := h.pol.len; rw [FP_len] at this; omega
  have hok : (l.getD p noPol).ok := by
    refine polB_ok.1 (List.all_eq_true.1 h.okp _ ?_)
    rw [List.getD_eq_getElem?_getD, List.getElem?_eq_getElem hp]
    exact List.getElem_mem hp
  have hcok : (getB M (p :: zs)).ok (l.getD p noPol) := by
    unfold getB
    rcases hm : M (p :: zs) with _ | cc
    · exact CelM.zero_ok hok
    · obtain ⟨p', zs', e, _, _, _, h6⟩ := h.inf _ _ hm
      simp only [List.cons.injEq] at e
      rw [← e.1] at h6
      exact h6
  obtain ⟨Ac, mc, kcc, hA, hsh, hlk⟩ := look_any hown hM hz hzl
  obtain ⟨pb, poff, rfl, hpb, hpc⟩ := h.pol.at_ (by omega)
  have hpc' := fun j (hj : j < 4) => (hpc (p * 4 + j) (by omega)).trans (FP_at l p j hp hj)
  have HI := fun W (hW : Below w.heap.size w W) => (ident_ok W w.heap.size KA p kn kc zs (hkey.below hW) hW.size (by omega) hkn)
  have hcon := cellM_ok (op := op) (now := now) (n := N) (s := s) hok hcok hkd hnow
  have HD := fun W (hW : Below w.heap.size w W) => cellDo_any W (l.getD p noPol) (getB M (p :: zs)) op now (p : Int) N s Ac KA mc kcc kn kc hok hcok ho hkd hN hnow ((hA.below hW).more hW.size) hsh
  generalize hoo : cellM (l.getD p noPol) (getB M (p :: zs)) op N now s = o at HD hcon hch
  obtain ⟨⟨r0, r1, r2, r3, r4, r5⟩, ⟨t', xs⟩, ch⟩ := o
  have q5 : ((op : Int) == 5) = false := beq_eq_false_iff_ne.2 (by omega)
  have q6 : ((op : Int) == 6) = false := beq_eq_false_iff_ne.2 (by omega)
  have HC : ∀ W, Below w.heap.size w W → Calls Try.prog 33 #[.pointer (some ⟨b, 0, none⟩), .agg #[.int .u8 (op : Nat), .int .i64 (p : Nat), .slice KA kn kc, .int .i64 N], .int .i64 (now : Nat), .int .i64 s] W fun e w' => e = .returned (.int .i64 0) ∧ Below W.heap.size W w' := fun W hW => by
    have hc0 : chkC l op (p : Int) kn N = 0 := by
      unfold chkC
      rw [if_neg (by omega), if_neg (by omega), if_neg (by rintro ⟨e, e2⟩; rw [hN e] at e2; cases e2), if_neg (by omega), if_neg]
      rintro (e | e | e)
      · omega
      · omega
      · rw [Int.toNat_natCast, hkd] at e; cases e
    have hT : isTick (now : Int) = true := isTick_iff.2 (by omega)
    refine bcheck_ok W b n c op kn kc _ KA (p : Int) N (now : Nat) s 0 room mb (h.blk.below hW) (Lib.hid fun W => by rw [← hT]; exact bTick_any W _) (fun e2 => Lib.hid fun W => ?_) (Lib.hid fun W2 h2 => ?_)
    · have := bSerial_any W s
      rw [decide_eq_true (hs e2).1, decide_eq_true (hs e2).2] at this
      exact this
    · have := checkCall_any W2 w.heap.size _ KA n c kn kc op l (p : Int) N (h.pol.below (hW.trans (h2.mono hW.size))) (hW.trans (h2.mono hW.size)).size
      rw [hc0] at this
      exact this
  have hq3 : (0 : Int) ≤ (p : Int) := by omega
  have hq4 : (p : Int) < (n : Int) := by omega
  have hpn : p < n := by omega
  have HIh : ∀ W, Below w.heap.size w W → Hid (∀ W1, Below W.heap.size W W1 → Calls Try.prog 53 #[.int .i64 (p : Nat), .slice KA kn kc] W1 fun e w' => ∃ A c, e = .returned (.tuple #[.slice A (kn + 1) c, .int .i64 0]) ∧ (convert 23 9 (.slice A (kn + 1) c)).run Try.prog w' = .ok (.string (bytesArr (p :: zs))) w' ∧ Below W1.heap.size W1 w') := fun W hW => Lib.hid fun W1 h1 => by
    refine (HI W1 (hW.trans (h1.mono hW.size))).mono ?_
    rintro e w' ⟨Ai, ci, e1, e2, e3⟩
    exact ⟨Ai, ci, e1, conv_any e2, e3⟩
  obtain rfl : ch = true := hch
  have hms : (M (p :: zs)).isSome = false := by rw [hno]; rfl
  refine (bDo_no w b op kn kc KA (p : Int) N (now : Nat) s 10 0 0 0 0 false q5 q6 (Lib.hid HC) (Lib.hid fun W hW => ?_))
  exact bdo_full W b pb poff n c room mb kn kc p mc kcc op (l.getD p noPol).kind KA Ac N (now : Nat) s (l.getD p noPol).T (l.getD p noPol).Tau (l.getD p noPol).perm ((getB M (p :: zs)).tat : Nat) r0 r2 r3 r4 r5 (t' : Nat) r1 xs (bytesArr (p :: zs))
      (h.blk.below hW) (Nat.lt_of_lt_of_le hown.lt hW.size) (Nat.lt_of_lt_of_le hpb hW.size)
      ((hW.cell (p := ⟨pb, poff + p * 4, none⟩) hpb).trans (hpc' 0 (by omega))) ((hW.cell (p := ⟨pb, poff + p * 4 + 1, none⟩) hpb).trans (hpc' 1 (by omega))) ((hW.cell (p := ⟨pb, poff + p * 4 + 2, none⟩) hpb).trans (hpc' 2 (by omega))) ((hW.cell (p := ⟨pb, poff + p * 4 + 3, none⟩) hpb).trans (hpc' 3 (by omega)))
      hq3 hq4 hpn (HIh W hW) (Lib.hid fun W1 h1 => by have := hlk W1 (hW.trans (h1.mono hW.size)); rw [hms] at this; exact this) (Lib.hid fun W1 h1 => HD W1 (hW.trans (h1.mono hW.size)))
      (Maps.size D) (decide_eq_true (by omega)) (decide_eq_true (by omega)) (Lib.hid fun W1 h1 ty => (own_below hown (hW.trans (h1.mono hW.size))).len Try.underlying69 ty)
theorem book_none {w : World} {b n c room mb k : Nat} {A : Option Addr} {l : List PolM} {M : BkMap} (hX : BkX w b A n c l room mb k M) (op p kn kc now : Nat) (KA : Option Addr) (zs : List Nat) (N s : Int) (ho : 1 ≤ op ∧ op ≤ 4) (hp : p < l.length) (hkd : kindB op (l.getD p noPol).kind = true)
    (hkey : Arg w w.heap.size KA kn kc zs) (hkn : kn ≤ 255) (hN : op = 1 → isTick N = true) (hnow : now ≤ 4611686018427387903) (hs : op = 2 → 1 ≤ s ∧ s ≤ 4611686018427387903) (hk : k ≤ 1000000) (hch : (cellM (l.getD p noPol) (getB M (p :: zs)) op N now s).2.2 = false) :
    Calls Try.prog 18 #[.pointer (some ⟨b, 0, none⟩), .agg #[.int .u8 (op : Nat), .int .i64 (p : Nat), .slice KA kn kc, .int .i64 N], .int .i64 (now : Nat), .int .i64 s] w
      fun e w' => e = .returned (repX (cellM (l.getD p noPol) (getB M (p :: zs)) op N now s).1) ∧ Below w.heap.size w w' := by
  have h := hX.r
  obtain ⟨D, hown, _, hM⟩ := h.map
  have hsz : Maps.size D = k := by
    obtain ⟨D', h1, h2⟩ := hX.e
    rw [own_uniq hown h1]
    exact h2
  have hlen := h.len
  have hkl := hkey.len
  have hroom := h.room
  have hz : ∀ d ∈ p :: zs, d < 256 := fun d hd => by
    rcases List.mem_cons.1 hd with rfl | hd
    · omega
    · exact hkey.byte d hd
  have hzl : (p :: zs).length ≤ 1000 := by simp; omega
  have hln : l.length = n := by have := h.pol.len; rw [FP_len] at this; omega
  have hok : (l.getD p noPol).ok := by
    refine polB_ok.1 (List.all_eq_true.1 h.okp _ ?_)
    rw [List.getD_eq_getElem?_getD, List.getElem?_eq_getElem hp]
    exact List.getElem_mem hp
  have hcok : (getB M (p :: zs)).ok (l.getD p noPol) := by
    unfold getB
    rcases hm : M (p :: zs) with _ | cc
    · exact CelM.zero_ok hok
    · obtain ⟨p', zs', e, _, _, _, h6⟩ := h.inf _ _ hm
      simp only [List.cons.injEq] at e
      rw [← e.1] at h6
      exact h6
  obtain ⟨Ac, mc, kcc, hA, hsh, hlk⟩ := look_any hown hM hz hzl
  obtain ⟨pb, poff, rfl, hpb, hpc⟩ := h.pol.at_ (by omega)
  have hpc' := fun j (hj : j < 4) => (hpc (p * 4 + j) (by omega)).trans (FP_at l p j hp hj)
  have HI := fun W (hW : Below w.heap.size w W) => (ident_ok W w.heap.size KA p kn kc zs (hkey.below hW) hW.size (by omega) hkn)
  have hcon := cellM_ok (op := op) (now := now) (n := N) (s := s) hok hcok hkd hnow
  have HD := fun W (hW : Below w.heap.size w W) => cellDo_any W (l.getD p noPol) (getB M (p :: zs)) op now (p : Int) N s Ac KA mc kcc kn kc hok hcok ho hkd hN hnow ((hA.below hW).more hW.size) hsh
  generalize hoo : cellM (l.getD p noPol) (getB M (p :: zs)) op N now s = o at HD hcon hch ⊢
  obtain ⟨⟨r0, r1, r2, r3, r4, r5⟩, ⟨t', xs⟩, ch⟩ := o
  have q5 : ((op : Int) == 5) = false := beq_eq_false_iff_ne.2 (by omega)
  have q6 : ((op : Int) == 6) = false := beq_eq_false_iff_ne.2 (by omega)
  have HC : ∀ W, Below w.heap.size w W → Calls Try.prog 33 #[.pointer (some ⟨b, 0, none⟩), .agg #[.int .u8 (op : Nat), .int .i64 (p : Nat), .slice KA kn kc, .int .i64 N], .int .i64 (now : Nat), .int .i64 s] W fun e w' => e = .returned (.int .i64 0) ∧ Below W.heap.size W w' := fun W hW => by
    have hc0 : chkC l op (p : Int) kn N = 0 := by
      unfold chkC
      rw [if_neg (by omega), if_neg (by omega), if_neg (by rintro ⟨e, e2⟩; rw [hN e] at e2; cases e2), if_neg (by omega), if_neg]
      rintro (e | e | e)
      · omega
      · omega
      · rw [Int.toNat_natCast, hkd] at e; cases e
    have hT : isTick (now : Int) = true := isTick_iff.2 (by omega)
    refine bcheck_ok W b n c op kn kc _ KA (p : Int) N (now : Nat) s 0 room mb (h.blk.below hW) (Lib.hid fun W => by rw [← hT]; exact bTick_any W _) (fun e2 => Lib.hid fun W => ?_) (Lib.hid fun W2 h2 => ?_)
    · have := bSerial_any W s
      rw [decide_eq_true (hs e2).1, decide_eq_true (hs e2).2] at this
      exact this
    · have := checkCall_any W2 w.heap.size _ KA n c kn kc op l (p : Int) N (h.pol.below (hW.trans (h2.mono hW.size))) (hW.trans (h2.mono hW.size)).size
      rw [hc0] at this
      exact this
  have hq3 : (0 : Int) ≤ (p : Int) := by omega
  have hq4 : (p : Int) < (n : Int) := by omega
  have hpn : p < n := by omega
  have HIh : ∀ W, Below w.heap.size w W → Hid (∀ W1, Below W.heap.size W W1 → Calls Try.prog 53 #[.int .i64 (p : Nat), .slice KA kn kc] W1 fun e w' => ∃ A c, e = .returned (.tuple #[.slice A (kn + 1) c, .int .i64 0]) ∧ (convert 23 9 (.slice A (kn + 1) c)).run Try.prog w' = .ok (.string (bytesArr (p :: zs))) w' ∧ Below W1.heap.size W1 w') := fun W hW => Lib.hid fun W1 h1 => by
    refine (HI W1 (hW.trans (h1.mono hW.size))).mono ?_
    rintro e w' ⟨Ai, ci, e1, e2, e3⟩
    exact ⟨Ai, ci, e1, conv_any e2, e3⟩
  obtain rfl : ch = false := hch
  refine (bDo_no w b op kn kc KA (p : Int) N (now : Nat) s r0 r2 r3 r4 r5 r1 q5 q6 (Lib.hid HC) (Lib.hid fun W hW => ?_))
  exact bdo_no W b pb poff n c room mb kn kc p mc kcc op (l.getD p noPol).kind KA Ac N (now : Nat) s (l.getD p noPol).T (l.getD p noPol).Tau (l.getD p noPol).perm ((getB M (p :: zs)).tat : Nat) r0 r2 r3 r4 r5 (t' : Nat) r1 (M (p :: zs)).isSome xs (bytesArr (p :: zs))
      (h.blk.below hW) (Nat.lt_of_lt_of_le hown.lt hW.size) (Nat.lt_of_lt_of_le hpb hW.size)
      ((hW.cell (p := ⟨pb, poff + p * 4, none⟩) hpb).trans (hpc' 0 (by omega))) ((hW.cell (p := ⟨pb, poff + p * 4 + 1, none⟩) hpb).trans (hpc' 1 (by omega))) ((hW.cell (p := ⟨pb, poff + p * 4 + 2, none⟩) hpb).trans (hpc' 2 (by omega))) ((hW.cell (p := ⟨pb, poff + p * 4 + 3, none⟩) hpb).trans (hpc' 3 (by omega)))
      hq3 hq4 hpn (HIh W hW) (Lib.hid fun W1 h1 => hlk W1 (hW.trans (h1.mono hW.size))) (Lib.hid fun W1 h1 => HD W1 (hW.trans (h1.mono hW.size)))
end Go.Proofs.Ytnkecjjfbllgdaa


/- The document's Find; Do of a fitted call of a book of any room. -/
namespace Go.Proofs.Ytnkecjjfbllgdaa
open Go.RowKit Go.Maps
set_option maxRecDepth 100000
set_option linter.unusedVariables false

/-- Is an identity there? -/
def fdB (L : List CelR) (z : List Nat) : Bool := L.any fun e => decide (e.id = z)
theorem fd_some {M : BkMap} {L : List CelR} (h : LstOf M L) {z : List Nat} (hz : ∀ d ∈ z, d < 256) : fdB L z = (M z).isSome := by
  obtain ⟨KL, hk, hi⟩ := h.ids
  rw [Bool.eq_iff_iff]
  unfold fdB
  rw [List.any_eq_true]
  constructor
  · rintro ⟨e, he, hd⟩
    have := of_decide_eq_true hd
    rw [← this, h.cel e he]; rfl
  · intro hs
    have e1 : natL (z.map fun d => UInt8.ofNat d) = z := by
      unfold natL
      rw [List.map_map]
      conv => rhs; rw [← List.map_id z]
      refine List.map_congr_left fun d hd => ?_
      have := hz d hd
      simp [Function.comp, UInt8.toNat_ofNat', Nat.mod_eq_of_lt this]
    have hm : (z.map fun d => UInt8.ofNat d) ∈ KL := (hk.mem _).2 (by rw [e1]; exact hs)
    have hm2 : z ∈ L.map CelR.id := by rw [hi]; exact List.mem_map.2 ⟨_, hm, e1⟩
    obtain ⟨e, he, hid⟩ := List.mem_map.1 hm2
    exact ⟨e, he, decide_eq_true hid⟩
theorem fd_take {L : List CelR} {z : List Nat} {i : Nat} (hi : i < L.length) (h : fdB (L.take i) z = false) (hne : (L.getD i noCel).id ≠ z) : fdB (L.take (i + 1)) z = false := by
  unfold fdB at *
  rw [List.take_succ_eq_append_getElem hi, List.any_append, h]
  have e : L.getD i noCel = L[i] := by rw [List.getD_eq_getElem?_getD, List.getElem?_eq_getElem hi]; rfl
  rw [e] at hne
  simp [hne]
set_option maxHeartbeats 3200000 in
theorem find16_any (w : World) (A KA : Option Addr) (n c p kn kc : Nat) (zs : List Nat) (L : List CelR) (h : CelsA w w.heap.size A n c L) (hk : Arg w w.heap.size KA kn kc zs) (hn : n ≤ 1000000) :
    Calls Try.prog 23 #[.slice A n c, .int .i64 (p : Nat), .slice KA kn kc] w fun e w' => ∃ fi : Int, e = .returned (.int .i64 fi) ∧ decide (0 ≤ fi) = fdB L (p :: zs) ∧ Below w.heap.size w w' := by
  have hl := h.len
  have H1 := Lib.hid (And.intro h hk)
  have HL := Lib.hid hl
  clear h hk hl
  go_enter Try.func23, Try.ntmps23
  go_wp2
  go_loopw [11] (fun iv wr => ∃ i : Nat, i ≤ n ∧ iv = .int .i64 (i : Int) ∧ fdB (L.take i) (p :: zs) = false ∧ Below w.heap.size w wr) (fun iv _ => n - (intOf iv).toNat)
  case atStart => exact ⟨0, Nat.zero_le _, rfl, rfl, Below.refl _ _⟩
  case round =>
    obtain ⟨i, hi, rfl, hfd, hb⟩ := hrel
    have HB := Lib.hid (And.intro hfd hb)
    clear hfd hb
    rcases Nat.lt_or_ge i n with hlt | hge
    · have h1 := (H1.out.1.below HB.out.2).more HB.out.2.size
      have hk1 := (H1.out.2.below HB.out.2).more HB.out.2.size
      obtain ⟨b, off, rfl, _, hc⟩ := h1.arg.at_ (by omega)
      have hf := fun j hj => (hc (i * 4 + j) (by omega)).trans (FC_at L i j (by have := HL.out; omega) hj)
      have hm := h1.mem _ (getD_mem (i := i) (by have := HL.out; omega))
      have e0 := hf 0 (by omega)
      have e1 := hf 1 (by omega)
      have e2 := hf 2 (by omega)
      have e3 := hf 3 (by omega)
      have hnx := fun hne => fd_take (z := p :: zs) (by have := HL.out; omega) HB.out.1 hne
      have hyx : (L.getD i noCel).id = p :: zs → fdB L (p :: zs) = true := fun e => List.any_eq_true.2 ⟨_, getD_mem (i := i) (by have := HL.out; omega), decide_eq_true e⟩
      generalize L.getD i noCel = x at hm hnx hyx e0 e1 e2 e3
      obtain ⟨xp, xA, xn, xc, xzs, xt, xH, xhn, xhc, xh⟩ := x
      simp only [CelR.cells, List.getElem?_cons_zero, List.getElem?_cons_succ] at e0 e1 e2 e3 hm
      simp only [CelR.id] at hnx hyx
      have e0 : wr.cell? ⟨b, off + i * 4, none⟩ = some (.int .i64 (xp : Nat)) := e0
      have e1 : wr.cell? ⟨b, off + i * 4 + 1, none⟩ = some (.slice xA xn xc) := e1
      have e2 : wr.cell? ⟨b, off + i * 4 + 2, none⟩ = some (.int .i64 (xt : Nat)) := e2
      have e3 : wr.cell? ⟨b, off + i * 4 + 3, none⟩ = some (.slice xH xhn xhc) := e3
      have hbl := below_a1 wr (.cells #[.int .i64 (xp : Nat), .slice xA xn xc, .int .i64 (xt : Nat), .slice xH xhn xhc] 75)
      have HNX := Lib.hid hnx
      have HYX := Lib.hid hyx
      have HBL := Lib.hid (HB.out.2.trans (hbl.mono HB.out.2.size))
      by_cases hp : xp = p
      · have d0 : ((xp : Int) == (p : Int)) = true := by rw [hp]; simp
        obtain ⟨r, hr⟩ : ∃ r, decide (xzs = zs) = r := ⟨_, rfl⟩
        have HS := Lib.hid (same_any (wr.alloc (.cells #[.int .i64 (xp : Nat), .slice xA xn xc, .int .i64 (xt : Nat), .slice xH xhn xhc] 75)) wr.heap.size wr.heap.size xA KA xn xc kn kc xzs zs r hr (hm.1.below hbl) (hk1.below hbl))
        have HR := Lib.hid hr
        have HP := Lib.hid hp
        clear hc hf hm hnx hyx hbl h1 hk1 hr hp
        rcases r with _ | _
        · go_wp2_with fail
          refine HS.out.mono ?_
          rintro e w2 ⟨rfl, t, rfl⟩
          go_wp2
          go_roundw
          case rel => exact ⟨i + 1, by omega, by push_cast; rfl, HNX.out (fun e => absurd (List.cons.inj e).2 (of_decide_eq_false HR.out)), below_drewN HBL.out t⟩
          case measure => simp [intOf]; omega
        · have hyes := HYX.out (by rw [HP.out, of_decide_eq_true HR.out])
          have HYES := Lib.hid hyes
          clear hyes
          go_wp2_with fail
          refine HS.out.mono ?_
          rintro e w2 ⟨rfl, t, rfl⟩
          go_wp2
          go_ret
          exact ⟨(i : Int), rfl, by rw [HYES.out, decide_eq_true (by omega)], below_drewN HBL.out t⟩
      · have d0 : ((xp : Int) == (p : Int)) = false := beq_eq_false_iff_ne.2 (by omega)
        have HP := Lib.hid hp
        clear hc hf hm hnx hyx hbl h1 hk1 hp
        go_wp2
        go_roundw
        case rel => exact ⟨i + 1, by omega, by push_cast; rfl, HNX.out (fun e => HP.out (List.cons.inj e).1), HBL.out⟩
        case measure => simp [intOf]; omega
    · obtain rfl : i = n := by omega
      have hfin : fdB L (p :: zs) = false := by have := HB.out.1; rwa [List.take_of_length_le (by have := HL.out; omega)] at this
      have HFIN := Lib.hid hfin
      clear hfin
      go_wp2
      go_ret
      exact ⟨-1, rfl, by rw [HFIN.out]; rfl, HB.out.2⟩

/-- Is there no room for what a call would put? -/
def fullB (l : List PolM) (M : BkMap) (v : FitV) (now k room : Nat) : Bool := decide (v.o ≤ 4) && (!(M (v.p :: v.zs)).isSome && (decide (room ≤ k) && (cellM (l.getD v.p noPol) (getB M (v.p :: v.zs)) v.o v.N now v.s).2.2))
theorem cell_e10 {p : PolM} {c : CelM} {o now : Nat} {N s : Int} : (cellM p c o N now s).1.e ≠ 10 := by
  unfold cellM
  split
  · unfold allowM; simp
  · split
    · unfold takeM
      split
      · simp
      · unfold RepM.err takeE
        simp only
        split
        · omega
        · split
          · omega
          · split
            · omega
            · split <;> omega
    · split
      · unfold giveM
        split
        · simp
        · unfold RepM.err; simp
      · unfold peekM
        split <;> simp
theorem cell_put {p : PolM} {c : CelM} {o now : Nat} {N s : Int} (h : o = 2 ∨ (o = 1 ∧ 0 < N)) (hg : (cellM p c o N now s).1.g = true) : (cellM p c o N now s).2.2 = true := by
  rcases h with rfl | ⟨rfl, hN⟩
  · unfold cellM takeM at *
    simp only [show ¬ ((2 : Nat) = 1) by decide, if_true, if_false] at *
    split at hg
    · rename_i h; rw [if_pos h]
    · cases hg
  · unfold cellM allowM at *
    simp only [if_true] at *
    rw [hg, decide_eq_true (show 0 < N.toNat by omega)]; rfl
/-- How many cells there are behind it. -/
def sizeF (l : List PolM) (M : BkMap) (v : FitV) (now k k' : Nat) : Prop := if v.o ≤ 4 then k' = sizeB M (v.p :: v.zs) (cellM (l.getD v.p noPol) (getB M (v.p :: v.zs)) v.o v.N now v.s) k else k' ≤ k
/-- Do of a fitted call, a book of any room. -/
theorem do_room {w : World} {b n c room mb k : Nat} {A : Option Addr} {l : List PolM} {M : BkMap} (hX : BkX w b A n c l room mb k M) (v : FitV) (hv : v.ok) (hl : l.length = 2) (h0 : (l.getD 0 noPol).kind = 1) (h1 : (l.getD 1 noPol).kind = 2) (now : Nat) (hnow : now ≤ 4611686018427387903)
    (hkey : Arg w w.heap.size v.A v.m v.c v.zs) (hkk : k ≤ 1000000) :
    Calls Try.prog 18 #[.pointer (some ⟨b, 0, none⟩), .agg #[.int .u8 (v.o : Nat), .int .i64 (v.p : Nat), .slice v.A v.m v.c, .int .i64 v.N], .int .i64 (now : Nat), .int .i64 v.s] w
      fun e w' => ∃ (r : RepM) (k' : Nat) (M' : BkMap), e = .returned (repX r) ∧ BkX w' b A n c l room mb k' M' ∧ Off [mb] w w' ∧
        ((fullB l M v now k room = true ∧ r = ⟨10, false, 0, 0, 0, 0⟩ ∧ k' = k ∧ M' = M) ∨ (fullB l M v now k room = false ∧ r = repF l M v.o v.p v.zs v.N now v.s k k' ∧ M' = actM l M v.o v.p v.zs v.N now v.s ∧ sizeF l M v now k k')) := by
  rcases hf : fullB l M v now k room with _ | _
  · by_cases hc : v.o ≤ 4 ∧ (M (v.p :: v.zs)).isSome = false ∧ room ≤ k
    · -- nothing is put
      have hch : (cellM (l.getD v.p noPol) (getB M (v.p :: v.zs)) v.o v.N now v.s).2.2 = false := by
        unfold fullB at hf
        rw [decide_eq_true hc.1, hc.2.1, decide_eq_true hc.2.2] at hf
        simpa using hf
      refine (book_none hX v.o v.p v.m v.c now v.A v.zs v.N v.s ⟨hv.o.1, hc.1⟩ (by rw [hl]; exact hv.p) (hv.kind l h0 h1) hkey (by have := hv.m; omega) hv.N hnow (fun _ => hv.s) hkk hch).mono ?_
      rintro e w' ⟨he, hb⟩
      refine ⟨_, k, M, he, hX.below hb, Off.of_below hb, .inr ⟨rfl, by unfold repF; rw [if_pos hc.1], ?_, by unfold sizeF sizeB; rw [if_pos hc.1, hch]; simp⟩⟩
      rw [actM_lt _ _ _ _ _ _ _ _ (by omega)]
      unfold afterB
      rw [hch]; rfl
    · by_cases h4 : v.o ≤ 4
      · refine (book_do w b n c room mb k v.o v.p v.m v.c now A v.A l M v.N v.s v.zs hX ⟨hv.o.1, h4⟩ (by rw [hl]; exact hv.p) (hv.kind l h0 h1) hkey (by have := hv.m; omega) hv.N hnow (fun _ => hv.s) hkk ?_).mono ?_
        · rcases hm : (M (v.p :: v.zs)).isSome with _ | _
          · exact .inr (by have : ¬ room ≤ k := fun e => hc ⟨h4, hm, e⟩; omega)
          · exact .inl rfl
        · rintro e w' ⟨he, hb, ho⟩
          exact ⟨_, _, _, he, hb, ho, .inr ⟨rfl, by unfold repF; rw [if_pos h4], (actM_lt _ _ _ _ _ _ _ _ (by omega)).symm, by unfold sizeF; rw [if_pos h4]⟩⟩
      · obtain ⟨o, p, KA, m, kc, zs, N, nw, sr⟩ := v
        have ho := hv.o
        simp only at ho h4 hkey ⊢
        have h56 : o = 5 ∨ o = 6 := by omega
        rcases h56 with rfl | rfl
        · refine (book_evict w b n c room mb k m kc now A KA l M (p : Int) N sr hX hnow hkk).mono ?_
          rintro e w' ⟨k', hk', he, hb, hf⟩
          exact ⟨⟨0, false, (k : Int) - (k' : Int), 0, 0, (now : Nat)⟩, k', _, he, hb, hf, .inr ⟨trivial, rfl, rfl, hk'⟩⟩
        · refine (book_split w b n c room mb k m kc now A KA l M (p : Int) N sr hX hnow).mono ?_
          rintro e w' ⟨he, hb⟩
          exact ⟨⟨0, false, 0, 0, 0, 0⟩, k, M, he, hX.below hb, Off.of_below hb, .inr ⟨trivial, rfl, rfl, Nat.le_refl _⟩⟩
  · unfold fullB at hf
    simp only [Bool.and_eq_true, decide_eq_true_eq, Bool.not_eq_true'] at hf
    obtain ⟨h4, hno, hfu, hch⟩ := hf
    refine (book_full w b n c room mb k v.o v.p v.m v.c now A v.A l M v.N v.s v.zs hX ⟨hv.o.1, h4⟩ (by rw [hl]; exact hv.p) (hv.kind l h0 h1) hkey (by have := hv.m; omega) hv.N hnow (fun _ => hv.s) hkk (by simpa using hno) hfu hch).mono ?_
    rintro e w' ⟨he, hb⟩
    exact ⟨_, k, M, he, hX.below hb, Off.of_below hb, .inl ⟨rfl, rfl, rfl, rfl⟩⟩
end Go.Proofs.Ytnkecjjfbllgdaa


/- BookFull: the walk. -/
namespace Go.Proofs.Ytnkecjjfbllgdaa
open Go.RowKit Go.Maps
set_option maxRecDepth 100000
set_option linter.unusedVariables false

structure FuR (w0 w : World) (xa ma room : Nat) (A1 : Option Addr) (c1 j : Nat) : Prop where
  low : Below w0.heap.size w0 w
  ga : w0.heap.size ≤ ma
  st : ∃ k M, BkX w xa A1 2 c1 tabL room ma k M ∧ k ≤ room
theorem tabn_new (w : World) (r : Nat) (hr : r < 4) : Calls Try.prog 15 #[.slice (some ⟨w.heap.size, 0, none⟩) 2 2, .int .i64 (1 + (r : Int))] (w.alloc (.cells (FP tabL).toArray 52))
    fun e w' => ∃ xb A' c' mb, e = .returned (.tuple #[.pointer (some ⟨xb, 0, none⟩), .int .i64 0]) ∧ BkX w' xb A' 2 c' tabL (1 + r) mb 0 (fun _ => none) ∧ w.heap.size ≤ mb ∧ Below w.heap.size w w' := by
  have h := bnew_any (w.alloc (.cells (FP tabL).toArray 52)) w.heap.size 0 2 2 (1 + r) tabL (tab_arg w) (by omega) (by omega) tab_ok
  rw [show ((1 + r : Nat) : Int) = 1 + (r : Int) by omega] at h
  refine h.mono ?_
  rintro e w' ⟨xb, A', c', mb, he, hx, h1, h2, hb⟩
  exact ⟨xb, A', c', mb, he, hx, by simp at h2; omega, (below_a1 w _).trans (hb.mono (by simp))⟩
theorem blen_y {w : World} {b n c room mb k : Nat} {A : Option Addr} {l : List PolM} {M : BkMap} (h : BkX w b A n c l room mb k M) : Calls Try.prog 19 #[.pointer (some ⟨b, 0, none⟩)] w fun e w' => e = .returned (.int .i64 (k : Nat)) ∧ w' = w := by
  obtain ⟨D, hd1, hd2⟩ := h.e
  exact blen_any w b mb k (h.r.blk.cell 2 _ rfl) (fun ty => by have := hd1.len Try.underlying69 ty; rw [hd2] at this; exact this)
theorem bkx_mapF {w : World} {b n c room mb k : Nat} {A : Option Addr} {l : List PolM} {M : BkMap} (h : BkX w b A n c l room mb k M) : ∃ es ck, w.heap[mb]? = some (.map es ck) := by
  obtain ⟨D, hd1, _⟩ := h.e
  exact own_map hd1
theorem eqBkF (x : Nat) (w : World) : (binOp .eql 34 (.pointer (some ⟨x, 0, none⟩)) (.pointer none)).run Try.prog w = .ok (.bool false) w := rfl
/-- What a call of a book of little room answers, as far as the law asks. -/
theorem room_facts {room k k' now : Nat} {M M' : BkMap} {v : FitV} {r : RepM} (hv : v.ok) (hk : k ≤ room)
    (h : (fullB tabL M v now k room = true ∧ r = ⟨10, false, 0, 0, 0, 0⟩ ∧ k' = k ∧ M' = M) ∨ (fullB tabL M v now k room = false ∧ r = repF tabL M v.o v.p v.zs v.N now v.s k k' ∧ M' = actM tabL M v.o v.p v.zs v.N now v.s ∧ sizeF tabL M v now k k')) :
    k' ≤ room ∧ (r.e = 10 → r.g = false ∧ (M (v.p :: v.zs)).isSome = false ∧ k = room ∧ k' = room) ∧ (v.o < 3 → r.g = true → (M (v.p :: v.zs)).isSome = false → (v.o = 2 ∨ 0 < v.N) → k < room ∧ k' = k + 1) := by
  have ho := hv.o
  rcases h with ⟨hf, rfl, rfl, rfl⟩ | ⟨hf, rfl, rfl, hk'⟩
  · unfold fullB at hf
    simp only [Bool.and_eq_true, decide_eq_true_eq, Bool.not_eq_true'] at hf
    exact ⟨hk, fun _ => ⟨rfl, hf.2.1, by omega, by omega⟩, fun _ hg => by cases hg⟩
  · unfold sizeF at hk'
    by_cases h4 : v.o ≤ 4
    · rw [if_pos h4] at hk'
      have e1 : repF tabL M v.o v.p v.zs v.N now v.s k k' = (cellM (tabL.getD v.p noPol) (getB M (v.p :: v.zs)) v.o v.N now v.s).1 := by unfold repF; rw [if_pos h4]
      have e10 := cell_e10 (p := tabL.getD v.p noPol) (c := getB M (v.p :: v.zs)) (o := v.o) (now := now) (N := v.N) (s := v.s)
      have ep := fun h hg => cell_put (p := tabL.getD v.p noPol) (c := getB M (v.p :: v.zs)) (o := v.o) (now := now) (N := v.N) (s := v.s) h hg
      rw [e1]
      unfold fullB at hf
      rw [decide_eq_true h4] at hf
      generalize cellM (tabL.getD v.p noPol) (getB M (v.p :: v.zs)) v.o v.N now v.s = X at *
      unfold sizeB at hk'
      refine ⟨?_, fun e => absurd e e10, fun h3 hg hno hp => ?_⟩
      · rw [hk']
        split
        · rename_i hh
          rw [hh.1, hh.2] at hf
          simp at hf
          omega
        · exact hk
      · have hX := ep (by rcases hp with h | h; exact .inl h; by_cases h2 : v.o = 2; exact .inl h2; exact .inr ⟨by omega, h⟩) hg
        rw [if_pos ⟨hX, hno⟩] at hk'
        rw [hX, hno] at hf
        simp at hf
        exact ⟨by omega, hk'⟩
    · rw [if_neg h4] at hk'
      have e1 : (repF tabL M v.o v.p v.zs v.N now v.s k k').e ≠ 10 ∧ (repF tabL M v.o v.p v.zs v.N now v.s k k').g = false := by
        unfold repF
        rw [if_neg h4]
        split <;> exact ⟨by simp, rfl⟩
      exact ⟨by omega, fun e => absurd e e1.1, fun h3 => by omega⟩
set_option maxHeartbeats 12800000 in
theorem bookFull_walk (cl : Nat) (A0 : Option Addr) (n0 c0 : Nat) (sc : List AskV) (w : World) (hcl : cl ≤ 255) (hsc : AskA w w.heap.size A0 n0 c0 sc) (hcap : c0 ≤ 2199023255488) :
    Calls Try.prog 7 #[.int .u8 (cl : Nat), .slice A0 n0 c0] w (ValEnd w (.bool true)) := by
  obtain ⟨r, hr⟩ : ∃ r, r = cl % 4 := ⟨_, rfl⟩
  have hr4 : r < 4 := by omega
  have hrm : (cl : Int) % 4 = (r : Int) := by omega
  have hrt : (cl : Int).tmod 4 = (r : Int) := by rw [Int.tmod_eq_emod_of_nonneg (by omega)]; exact hrm
  have HAw := Lib.hid (awake16_any w)
  have HSC := Lib.hid hsc
  have HN := Lib.hid (fun w => tabn_new w r hr4)
  have HT := Lib.hid table_any
  have heq := eqBkF
  have hle0 : n0 ≤ c0 := hsc.arg.le
  clear hsc hr
  go_enter Try.func7, Try.ntmps7
  go_wp2_with fail
  refine HAw.out.mono ?_
  rintro e w1 ⟨rfl, hb1⟩
  have HB1 := Lib.hid hb1
  clear hb1 HAw
  go_wp2_with fail
  refine (HT.out w1).mono ?_
  rintro e w2 ⟨rfl, rfl⟩
  go_wp2_with fail
  refine (HN.out w1).mono ?_
  rintro e w2 ⟨xa, A1, ca, ma, rfl, hxa, hma, hb2⟩
  have HAp := Lib.hid (show FuR w w2 xa ma (1 + r) A1 ca 0 from ⟨HB1.out.trans (hb2.mono HB1.out.size), Nat.le_trans HB1.out.size hma, ⟨0, _, hxa, Nat.zero_le _⟩⟩)
  clear hb2 hxa hma HB1 HT HN hrm hrt
  go_wp2_with fail
  go_loopw [33] (fun iv wr => ∃ j : Nat, j ≤ n0 ∧ j ≤ 150 ∧ iv = .int .i64 (j : Int) ∧ FuR w wr xa ma (1 + r) A1 ca j) (fun iv _ => n0 - (intOf iv).toNat)
  case atStart => exact ⟨0, Nat.zero_le _, Nat.zero_le _, rfl, HAp.out⟩
  case round =>
    obtain ⟨j, hj, hj150, rfl, hap⟩ := hrel
    have HP := Lib.hid hap
    clear hap HAp
    rcases Nat.lt_or_ge j n0 with h1 | h1
    · have hln := HSC.out.len
      have hkk := HSC.out.key _ (ask_mem (l := sc) (i := j) (by omega))
      obtain ⟨b, off, rfl, hbB, hcc⟩ := ((HSC.out.below HP.out.low).arg).at_ (by omega)
      have hf := fun t ht => FA_at sc j t (by omega) ht
      have e0 := (hcc (j * 6) (by omega)).trans (hf 0 (by omega))
      have e1 := (hcc (j * 6 + 1) (by omega)).trans (hf 1 (by omega))
      have e2 := (hcc (j * 6 + 2) (by omega)).trans (hf 2 (by omega))
      have e3 := (hcc (j * 6 + 3) (by omega)).trans (hf 3 (by omega))
      have e4 := (hcc (j * 6 + 4) (by omega)).trans (hf 4 (by omega))
      have e5 := (hcc (j * 6 + 5) (by omega)).trans (hf 5 (by omega))
      clear hcc hf hln hbB
      generalize sc.getD j noAsk = a at hkk e0 e1 e2 e3 e4 e5
      obtain ⟨v, hv, kv, fv⟩ := fit_abs a hkk
      obtain ⟨aop, aq, aA, an, ac, azs, aN, anow, asr⟩ := a
      simp only [AskV.cells, List.getElem?_cons_zero, List.getElem?_cons_succ] at e0 e1 e2 e3 e4 e5
      have e1 : wr.cell? ⟨b, off + j * 6 + 1, none⟩ = some (.int .i64 aq) := e1
      have e2 : wr.cell? ⟨b, off + j * 6 + 2, none⟩ = some (.slice aA an ac) := e2
      have e3 : wr.cell? ⟨b, off + j * 6 + 3, none⟩ = some (.int .i64 aN) := e3
      have e4 : wr.cell? ⟨b, off + j * 6 + 4, none⟩ = some (.int .i64 anow) := e4
      have e5 : wr.cell? ⟨b, off + j * 6 + 5, none⟩ = some (.int .i64 asr) := e5
      have HV := Lib.hid (And.intro hv kv)
      have HF := Lib.hid fv
      clear hkk hv kv fv
      rcases Nat.lt_or_ge j 150 with h2 | h2
      · go_wp2_with fail
        refine (HF.out _).mono ?_
        rintro e w5 ⟨rfl, hb5⟩
        have k0 := (BlkL.new wr [.int .u8 (aop : Nat), .int .i64 aq, .slice aA an ac, .int .i64 aN, .int .i64 anow, .int .i64 asr] 39).below hb5
        have HB5 := Lib.hid ((below_a1 wr (.cells #[.int .u8 (aop : Nat), .int .i64 aq, .slice aA an ac, .int .i64 aN, .int .i64 anow, .int .i64 asr] 39)).trans (hb5.mono (by simp)))
        clear hb5 e0 e1 e2 e3 e4 e5 HF
        have c0 := k0.cell 0 _ rfl
        have c1 := k0.cell 1 _ rfl
        have c2 := k0.cell 2 _ rfl
        have c3 := k0.cell 3 _ rfl
        have c4 := k0.cell 4 _ rfl
        have c5 := k0.cell 5 _ rfl
        have f0 := k0.froz 0 (by simp)
        have f1 := k0.froz 1 (by simp)
        have f2 := k0.froz 2 (by simp)
        have f3 := k0.froz 3 (by simp)
        have f4 := k0.froz 4 (by simp)
        have f5 := k0.froz 5 (by simp)
        have K0 := Lib.hid k0
        clear k0
        go_upto_region 12 with (fail)
        have kbx := K0.out.put6 (.int .u8 (v.o : Nat)) (.int .i64 (v.p : Nat)) (.slice v.A v.m v.c) (.int .i64 v.N) (.int .i64 (v.nw : Nat)) (.int .i64 v.s)
        have hbx := below_put6 HB5.out (b := wr.heap.size) (Nat.le_refl _) (.int .u8 (v.o : Nat)) (.int .i64 (v.p : Nat)) (.slice v.A v.m v.c) (.int .i64 v.N) (.int .i64 (v.nw : Nat)) (.int .i64 v.s)
        clear c0 c1 c2 c3 c4 c5 f0 f1 f2 f3 f4 f5 K0 HB5
        generalize World.setCell _ _ _ = WB at kbx hbx ⊢
        obtain ⟨k, M, hA, hk⟩ := HP.out.st
        have hlow := HP.out.low.trans (hbx.mono HP.out.low.size)
        have HCA := Lib.hid (cells_any WB xa 2 ca (1 + r) ma k A1 tabL M (hA.below hbx) (by omega))
        have HB := Lib.hid (And.intro (hA.below hbx) (And.intro kbx (And.intro hlow (And.intro hA.lt hbx.size))))
        have HK := Lib.hid hk
        clear hA hk kbx hbx hlow
        go_wp2_with fail
        refine HCA.out.mono ?_
        rintro e w6 ⟨LA, lc, l1, rfl, hl1, hlo1, hce1, hb6⟩
        have hX6 := HB.out.1.below hb6
        have hk6 := HB.out.2.1.below hb6
        have hlow6 := HB.out.2.2.1.trans (hb6.mono HB.out.2.2.1.size)
        have hca := CelsA.of hl1 hce1
        have hkey6 := ((HV.out.2.below hlow6).more hlow6.size)
        have hbyt : ∀ d ∈ v.p :: v.zs, d < 256 := fun d hd => by
          rcases List.mem_cons.1 hd with rfl | hd
          · have := HV.out.1.p; omega
          · exact HV.out.2.byte d hd
        have HFD := Lib.hid (find16_any w6 LA v.A k lc v.p v.m v.c v.zs l1 hca hkey6 (by have := HK.out; omega))
        have HTH := Lib.hid (fd_some hlo1 hbyt)
        have HX6 := Lib.hid (And.intro hX6 (And.intro hk6 (And.intro hlow6 (Nat.lt_of_lt_of_le HB.out.2.2.2.1 HB.out.2.2.2.2))))
        have c0 := hk6.cell 0 _ rfl
        have c1 := hk6.cell 1 _ rfl
        have c2 := hk6.cell 2 _ rfl
        have c3 := hk6.cell 3 _ rfl
        have c4 := hk6.cell 4 _ rfl
        have c5 := hk6.cell 5 _ rfl
        clear HCA hl1 hlo1 hce1 hb6 hX6 hk6 hlow6 hca hkey6 hbyt HB
        go_wp2_with fail
        refine HFD.out.mono ?_
        rintro e w7 ⟨fi, rfl, hfi, hb7⟩
        have hth := hfi.trans HTH.out
        have hX7 := HX6.out.1.below hb7
        have hk7 := HX6.out.2.1.below hb7
        have hlow7 := HX6.out.2.2.1.trans (hb7.mono HX6.out.2.2.1.size)
        have HDO := Lib.hid (do_room hX7 v HV.out.1 rfl rfl rfl v.nw HV.out.1.nw ((HV.out.2.below hlow7).more hlow7.size) (by have := HK.out; omega))
        have HX7 := Lib.hid (And.intro hX7 (And.intro hk7 hlow7))
        have HTH2 := Lib.hid hth
        clear c0 c1 c2 c3 c4 c5 HFD HTH hfi hb7 hX7 hk7 hlow7 hth HX6
        obtain ⟨th, hthe⟩ : ∃ th, th = (M (v.p :: v.zs)).isSome := ⟨_, rfl⟩
        have hd1 : decide (0 ≤ fi) = th := by rw [hthe]; exact HTH2.out
        have HTE := Lib.hid hthe
        have c0 := HX7.out.2.1.cell 0 _ rfl
        have c1 := HX7.out.2.1.cell 1 _ rfl
        have c2 := HX7.out.2.1.cell 2 _ rfl
        have c3 := HX7.out.2.1.cell 3 _ rfl
        have c4 := HX7.out.2.1.cell 4 _ rfl
        have c5 := HX7.out.2.1.cell 5 _ rfl
        clear hthe HTH2
        go_wp2_with fail
        refine HDO.out.mono ?_
        rintro e w8 ⟨ra, k', M', rfl, hX8, ho8, hfx⟩
        have hfacts := room_facts HV.out.1 HK.out hfx
        obtain ⟨es, ck, hm⟩ := bkx_mapF HX7.out.1
        have hk8 := HX7.out.2.1.off ho8 (by simpa using cell_ne_map (p := ⟨wr.heap.size, 0, none⟩) (HX7.out.2.1.cell 0 _ rfl) hm)
        have hlow8 := HX7.out.2.2.trans (ho8.below HX7.out.2.2.size (by intro x hx; have := HP.out.ga; simp at hx; omega))
        have hk9 := hk8.below (below_a1 w8 (.cells #[.int .i64 ra.e, .bool ra.g, .int .i64 ra.l, .int .i64 ra.wt, .int .i64 ra.s, .int .i64 ra.now] 42))
        have hr9 := BlkL.new w8 [.int .i64 ra.e, .bool ra.g, .int .i64 ra.l, .int .i64 ra.wt, .int .i64 ra.s, .int .i64 ra.now] 42
        have hX9 := hX8.below (below_a1 w8 (.cells #[.int .i64 ra.e, .bool ra.g, .int .i64 ra.l, .int .i64 ra.wt, .int .i64 ra.s, .int .i64 ra.now] 42))
        have hlow9 := hlow8.trans ((below_a1 w8 (.cells #[.int .i64 ra.e, .bool ra.g, .int .i64 ra.l, .int .i64 ra.wt, .int .i64 ra.s, .int .i64 ra.now] 42)).mono hlow8.size)
        have hkr := hfacts.1
        have HFA := Lib.hid hfacts.2
        have HLN := Lib.hid (blen_y hX9)
        have HEND := Lib.hid (show FuR w (w8.alloc (.cells #[.int .i64 ra.e, .bool ra.g, .int .i64 ra.l, .int .i64 ra.wt, .int .i64 ra.s, .int .i64 ra.now] 42)) xa ma (1 + r) A1 ca (j + 1) from ⟨hlow9, HP.out.ga, ⟨k', M', hX9, hkr⟩⟩)
        clear c0 c1 c2 c3 c4 c5 HDO hX8 ho8 hfx hfacts hm hk8 hlow8 hX9 hlow9 HX7
        have c0 := hk9.cell 0 _ rfl
        have c1 := hk9.cell 1 _ rfl
        have c2 := hk9.cell 2 _ rfl
        have c3 := hk9.cell 3 _ rfl
        have c4 := hk9.cell 4 _ rfl
        have c5 := hk9.cell 5 _ rfl
        have r0 := hr9.cell 0 _ rfl
        have r1 := hr9.cell 1 _ rfl
        have hkle := HK.out
        clear hk9 hr9
        rw [← HTE.out] at HFA
        obtain ⟨re, rg, rl, rt, rs, rn⟩ := ra
        dsimp only at c0 c1 c2 c3 c4 c5 r0 r1
        by_cases h10 : re = 10
        · obtain ⟨g1, g2, g3, g4⟩ := HFA.out.1 h10
          have g1 : rg = false := g1
          subst g1 g2 h10
          have G := Lib.hid (And.intro g3 g4)
          obtain rfl : k' = 1 + r := g4
          obtain rfl : k = 1 + r := g3
          clear hkr hkle
          have d1 : ((1 + r : Nat) : Int) = 1 + (r : Int) := by omega
          have dn : (1 + (r : Int) != 1 + (r : Int)) = false := by simp
          go_wp2_with (first | (with_reducible refine (HLN.out).mono ?_; rintro e w9 ⟨rfl, rfl⟩))
          all_goals
            go_roundw
            case rel => exact ⟨j + 1, by omega, by omega, by push_cast; rfl, HEND.out⟩
            case measure => simp [intOf]; omega
        · have d10 : (re == 10) = false := beq_eq_false_iff_ne.2 h10
          by_cases h3 : v.o < 3
          · have d3 : (v.o : Int) < 3 := by omega
            rcases rg with _ | _
            · clear h10
              go_wp2_with (first | (with_reducible refine (HLN.out).mono ?_; rintro e w9 ⟨rfl, rfl⟩))
              all_goals
                go_roundw
                case rel => exact ⟨j + 1, by omega, by omega, by push_cast; rfl, HEND.out⟩
                case measure => simp [intOf]; omega
            · rcases th with _ | _
              · have HH := Lib.hid (fun hp => HFA.out.2 h3 rfl rfl hp)
                by_cases h2o : v.o = 2
                · obtain ⟨g1, g2⟩ := HH.out (.inl h2o)
                  have d2 : ((v.o : Int) == 2) = true := by rw [h2o]; rfl
                  have dk : ((k : Int) == 1 + (r : Int)) = false := beq_eq_false_iff_ne.2 (by omega)
                  obtain rfl : k' = k + 1 := g2
                  have dq : ((k : Int) + 1 != (k : Int) + 1) = false := by simp
                  clear h10 h2o
                  go_wp2_with (first | (with_reducible refine (HLN.out).mono ?_; rintro e w9 ⟨rfl, rfl⟩))
                  all_goals
                    go_roundw
                    case rel => exact ⟨j + 1, by omega, by omega, by push_cast; rfl, HEND.out⟩
                    case measure => simp [intOf]; omega
                · have d2 : ((v.o : Int) == 2) = false := beq_eq_false_iff_ne.2 (by omega)
                  by_cases hN : 0 < v.N
                  · obtain ⟨g1, g2⟩ := HH.out (.inr hN)
                    have dk : ((k : Int) == 1 + (r : Int)) = false := beq_eq_false_iff_ne.2 (by omega)
                    obtain rfl : k' = k + 1 := g2
                    have dq : ((k : Int) + 1 != (k : Int) + 1) = false := by simp
                    clear h10 h2o
                    go_wp2_with (first | (with_reducible refine (HLN.out).mono ?_; rintro e w9 ⟨rfl, rfl⟩))
                    all_goals
                      go_roundw
                      case rel => exact ⟨j + 1, by omega, by omega, by push_cast; rfl, HEND.out⟩
                      case measure => simp [intOf]; omega
                  · clear h10 h2o
                    go_wp2_with (first | (with_reducible refine (HLN.out).mono ?_; rintro e w9 ⟨rfl, rfl⟩))
                    all_goals
                      go_roundw
                      case rel => exact ⟨j + 1, by omega, by omega, by push_cast; rfl, HEND.out⟩
                      case measure => simp [intOf]; omega
              · clear h10
                go_wp2_with (first | (with_reducible refine (HLN.out).mono ?_; rintro e w9 ⟨rfl, rfl⟩))
                all_goals
                  go_roundw
                  case rel => exact ⟨j + 1, by omega, by omega, by push_cast; rfl, HEND.out⟩
                  case measure => simp [intOf]; omega
          · have d3 : ¬ (v.o : Int) < 3 := by omega
            clear h10
            go_wp2_with (first | (with_reducible refine (HLN.out).mono ?_; rintro e w9 ⟨rfl, rfl⟩))
            all_goals
              go_roundw
              case rel => exact ⟨j + 1, by omega, by omega, by push_cast; rfl, HEND.out⟩
              case measure => simp [intOf]; omega
      · have hlow := HP.out.low.trans ((below_a1 wr (.cells #[.int .u8 (aop : Nat), .int .i64 aq, .slice aA an ac, .int .i64 aN, .int .i64 anow, .int .i64 asr] 39)).mono HP.out.low.size)
        have HLw := Lib.hid hlow
        clear hlow
        go_wp2
        go_ret
        exact ⟨rfl, HLw.out⟩
    · obtain rfl : j = n0 := by omega
      go_wp2
      go_ret
      exact ⟨rfl, HP.out.low⟩
end Go.Proofs.Ytnkecjjfbllgdaa
