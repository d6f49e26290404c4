/- (*Book).do: where the cell is put (false). -/
import Derived.Test.YtnkecjjfbllgdaaBkL
namespace Go.Proofs.Ytnkecjjfbllgdaa
open Go.RowKit Go.Maps
set_option maxRecDepth 100000
set_option linter.unusedVariables false
set_option maxHeartbeats 12800000 in
theorem bdo_put_false (w : World) (b pb poff n c room mb kn kc q mc kcc : Nat) (op kd : Nat) (KA Ac : Option Addr) (N now s T Tau pm tat r0 r2 r3 r4 r5 t' : Int) (r1 : Bool) (xs : List Int) (sB : ByteArray)
    (KB : BlkL w b [.slice (some ⟨pb, poff, none⟩) n c, .int .i64 (room : Nat), .map (some mb)]) (hmb : mb < w.heap.size) (hpb : pb < w.heap.size)
    (p0 : w.cell? ⟨pb, poff + q * 4, none⟩ = some (.int .u8 (kd : Nat))) (p1 : w.cell? ⟨pb, poff + q * 4 + 1, none⟩ = some (.int .i64 T)) (p2 : w.cell? ⟨pb, poff + q * 4 + 2, none⟩ = some (.int .i64 Tau)) (p3 : w.cell? ⟨pb, poff + q * 4 + 3, none⟩ = some (.int .i64 pm))
    (hq0 : (0 : Int) ≤ (q : Int)) (hqn : (q : Int) < (n : Int)) (hqn' : q < n)
    (HI : Hid (∀ W, Below w.heap.size w W → Calls Try.prog 53 #[.int .i64 (q : Nat), .slice KA kn kc] W fun e w' => ∃ A c, e = .returned (.tuple #[.slice A (kn + 1) c, .int .i64 0]) ∧ (convert 23 9 (.slice A (kn + 1) c)).run Try.prog w' = .ok (.string sB) w' ∧ Below W.heap.size W w'))
    (HL : Hid (∀ W, Below w.heap.size w W → (Instr.lookup 69 (.map (some mb)) (.string sB) true).run Try.prog W = .ok (.tuple #[.agg #[.int .i64 tat, .slice Ac mc kcc], .bool false]) W))
    (HD : Hid (∀ W, Below w.heap.size w W → Calls Try.prog 54 #[.agg #[.int .u8 (kd : Nat), .int .i64 T, .int .i64 Tau, .int .i64 pm], .agg #[.int .i64 tat, .slice Ac mc kcc], .agg #[.int .u8 (op : Nat), .int .i64 (q : Nat), .slice KA kn kc, .int .i64 N], .int .i64 now, .int .i64 s] W fun e w' => ∃ A' m' k', e = .returned (.tuple #[.agg #[.int .i64 r0, .bool r1, .int .i64 r2, .int .i64 r3, .int .i64 r4, .int .i64 r5], .agg #[.int .i64 t', .slice A' m' k'], .bool true]) ∧ (true = true → OwnI w' W.heap.size A' m' k' xs) ∧ Below W.heap.size W w'))
    (PU : Value → World → Prop) (hPU : ∀ v W p u, p.block ≠ mb → PU v W → PU v (W.setCell p u))
    (HU : Hid (∀ W v, Below w.heap.size w W → ∃ W', (Instr.mapUpdate 69 (.map (some mb)) (.string sB) v).run Try.prog W = .ok () W' ∧ W.mapTurned W' mb ∧ PU v W'))
    (sz : Nat) (hsz : decide ((room : Int) ≤ (sz : Int)) = false) (hsz' : decide (room ≤ sz) = false)
    (HN : Hid (∀ W, Below w.heap.size w W → ∀ ty, (Builtin.len_ #[69] ty #[.map (some mb)]).run Try.prog W = .ok (.int .i64 (sz : Nat)) W)) :
    Calls Try.prog 35 #[.pointer (some ⟨b, 0, none⟩), .agg #[.int .u8 (op : Nat), .int .i64 (q : Nat), .slice KA kn kc, .int .i64 N], .int .i64 now, .int .i64 s] w fun e w' => e = .returned (.agg #[.int .i64 r0, .bool r1, .int .i64 r2, .int .i64 r3, .int .i64 r4, .int .i64 r5]) ∧ ∃ A' m' k', OwnI w' w.heap.size A' m' k' xs ∧ PU (.agg #[.int .i64 t', .slice A' m' k']) w' ∧ Off [mb] w w' := by
  go_enter Try.func35, Try.ntmps35
  have k0 := (BlkL.new w [.int .u8 (op : Nat), .int .i64 (q : Nat), .slice KA kn kc, .int .i64 N] 25).alloc (.cells #[.int .i64 0, .bool false, .int .i64 0, .int .i64 0, .int .i64 0, .int .i64 0] 42)
  have k1 := BlkL.new (w.alloc (.cells #[.int .u8 (op : Nat), .int .i64 (q : Nat), .slice KA kn kc, .int .i64 N] 25)) [.int .i64 0, .bool false, .int .i64 0, .int .i64 0, .int .i64 0, .int .i64 0] 42
  have kb := (KB.alloc (.cells #[.int .u8 (op : Nat), .int .i64 (q : Nat), .slice KA kn kc, .int .i64 N] 25)).alloc (.cells #[.int .i64 0, .bool false, .int .i64 0, .int .i64 0, .int .i64 0, .int .i64 0] 42)
  have hb0 := below_a2 w (.cells #[.int .u8 (op : Nat), .int .i64 (q : Nat), .slice KA kn kc, .int .i64 N] 25) (.cells #[.int .i64 0, .bool false, .int .i64 0, .int .i64 0, .int .i64 0, .int .i64 0] 42)
  simp only [World.size_alloc, List.toArray] at k0 k1 kb hb0
  have K0 := Lib.hid k0
  have K1 := Lib.hid k1
  have KB0 := Lib.hid kb
  have HB0 := Lib.hid hb0
  clear k0 k1 kb hb0
  have PP := Lib.hid (And.intro p0 (And.intro p1 (And.intro p2 p3)))
  have HM := Lib.hid (And.intro hmb hpb)
  have HKB := Lib.hid KB
  clear p0 p1 p2 p3 KB hmb hpb
  go_wp2_with fail
  with_reducible refine (HI.out _ HB0.out).mono ?_
  rintro e w1 ⟨Ai, ci, rfl, hcv, hb⟩
  have k0 := K0.out.below hb
  have k1 := K1.out.below hb
  have kb := KB0.out.below hb
  have HB1 := Lib.hid (HB0.out.trans (hb.mono HB0.out.size))
  have hlk := HL.out w1 HB1.out
  clear hb K0 K1 KB0
  have a0 := k0.cell 0 _ rfl
  have a1 := k0.cell 1 _ rfl
  have a2 := k0.cell 2 _ rfl
  have a3 := k0.cell 3 _ rfl
  have n2 := kb.cell 2 _ rfl
  have K0 := Lib.hid k0
  have K1 := Lib.hid k1
  have KB1 := Lib.hid kb
  clear k0 k1 kb
  go_wp2
  have k0 := K0.out.alloc (.cells #[.int .i64 tat, .slice Ac mc kcc] 83)
  have k1 := K1.out.alloc (.cells #[.int .i64 tat, .slice Ac mc kcc] 83)
  have kb := KB1.out.alloc (.cells #[.int .i64 tat, .slice Ac mc kcc] 83)
  have k2 := BlkL.new w1 [.int .i64 tat, .slice Ac mc kcc] 83
  have hb2 := HB1.out.alloc HB1.out.size (.cells #[.int .i64 tat, .slice Ac mc kcc] 83)
  clear K0 K1 KB1 HB1 HI HL hcv hlk a0 a1 a2 a3 n2
  simp only [List.toArray] at k0 k1 k2 kb hb2
  generalize World.alloc _ _ = WA at k0 k1 k2 kb hb2 ⊢
  have p0 := (hb2.cell (p := ⟨pb, poff + q * 4, none⟩) HM.out.2).trans PP.out.1
  have p1 := (hb2.cell (p := ⟨pb, poff + q * 4 + 1, none⟩) HM.out.2).trans PP.out.2.1
  have p2 := (hb2.cell (p := ⟨pb, poff + q * 4 + 2, none⟩) HM.out.2).trans PP.out.2.2.1
  have p3 := (hb2.cell (p := ⟨pb, poff + q * 4 + 3, none⟩) HM.out.2).trans PP.out.2.2.2
  have a0 := k0.cell 0 _ rfl
  have a1 := k0.cell 1 _ rfl
  have a2 := k0.cell 2 _ rfl
  have a3 := k0.cell 3 _ rfl
  have n0 := kb.cell 0 _ rfl
  have v0 := k2.cell 0 _ rfl
  have v1 := k2.cell 1 _ rfl
  have y0 := k0.lt
  have y2 := k2.lt
  have yb := kb.lt
  have yp := Nat.lt_of_lt_of_le HM.out.2 hb2.size
  have HY := Lib.hid (And.intro k1.lt yb)
  have K0 := Lib.hid k0
  have K2 := Lib.hid k2
  have K1 := Lib.hid k1
  have KB1 := Lib.hid kb
  have HB2 := Lib.hid hb2
  clear k0 k1 k2 kb hb2
  go_region_held3 (fun w' => w'.cell? ⟨b, 0, none⟩ = some (.slice (some ⟨pb, poff, none⟩) n c) ∧ w'.cell? ⟨w.heap.size, 0, none⟩ = some (.int .u8 (op : Nat)) ∧ w'.cell? ⟨w.heap.size, 1, none⟩ = some (.int .i64 (q : Nat)) ∧ w'.cell? ⟨w.heap.size, 2, none⟩ = some (.slice KA kn kc) ∧ w'.cell? ⟨w.heap.size, 3, none⟩ = some (.int .i64 N) ∧ w'.cell? ⟨w1.heap.size, 0, none⟩ = some (.int .i64 tat) ∧ w'.cell? ⟨w1.heap.size, 1, none⟩ = some (.slice Ac mc kcc) ∧ w'.cell? ⟨pb, poff + q * 4, none⟩ = some (.int .u8 (kd : Nat)) ∧ w'.cell? ⟨pb, poff + q * 4 + 1, none⟩ = some (.int .i64 T) ∧ w'.cell? ⟨pb, poff + q * 4 + 2, none⟩ = some (.int .i64 Tau) ∧ w'.cell? ⟨pb, poff + q * 4 + 3, none⟩ = some (.int .i64 pm)) (refine ⟨?_, ?_, ?_, ?_, ?_, ?_, ?_, ?_, ?_, ?_, ?_⟩ <;> ((repeat (first | (with_reducible refine keepS (by omega) ?_) | (with_reducible refine keepA (by first | omega | (simp [World.setCell]; omega)) ?_) | (with_reducible refine keepD ?_))); with_reducible assumption)) ((first | (with_reducible refine (HD.out WA.drew HB2.out.drew).mono ?_; rintro e w3 ⟨A', m', k', rfl, ho, hb⟩; clear a0 a1 a2 a3 n0 v0 v1 p0 p1 p2 p3; have k1 := K1.out.drew.below hb; have kb := KB1.out.drew.below hb; have k0 := K0.out.drew.below hb; have k2 := K2.out.drew.below hb; have p0 := ((HB2.out.drew.trans (hb.mono HB2.out.drew.size)).cell (p := ⟨pb, poff + q * 4, none⟩) HM.out.2).trans PP.out.1; have p1 := ((HB2.out.drew.trans (hb.mono HB2.out.drew.size)).cell (p := ⟨pb, poff + q * 4 + 1, none⟩) HM.out.2).trans PP.out.2.1; have p2 := ((HB2.out.drew.trans (hb.mono HB2.out.drew.size)).cell (p := ⟨pb, poff + q * 4 + 2, none⟩) HM.out.2).trans PP.out.2.2.1; have p3 := ((HB2.out.drew.trans (hb.mono HB2.out.drew.size)).cell (p := ⟨pb, poff + q * 4 + 3, none⟩) HM.out.2).trans PP.out.2.2.2; have n0 := kb.cell 0 _ rfl; have a0 := k0.cell 0 _ rfl; have a1 := k0.cell 1 _ rfl; have a2 := k0.cell 2 _ rfl; have a3 := k0.cell 3 _ rfl; have v0 := k2.cell 0 _ rfl; have v1 := k2.cell 1 _ rfl; clear k0 k2; have HB3 := Lib.hid (HB2.out.drew.trans (hb.mono HB2.out.drew.size)); have hs3 : WA.heap.size ≤ w3.heap.size := szB hb (Nat.le_refl _); have HO := Lib.hid ho; clear hb ho; have s31 : w3.heap.size < w3.heap.size + 1 := Nat.lt_succ_self _; have L1 := Lib.hid k1; have LB := Lib.hid kb; clear k1 kb) | (with_reducible refine (HD.out (WA.alloc (.cells #[.int .i64 0, .bool false, .int .i64 0, .int .i64 0, .int .i64 0, .int .i64 0] 42)).drew (HB2.out.alloc HB2.out.size (.cells #[.int .i64 0, .bool false, .int .i64 0, .int .i64 0, .int .i64 0, .int .i64 0] 42)).drew).mono ?_; rintro e w3 ⟨A', m', k', rfl, ho, hb⟩; clear a0 a1 a2 a3 n0 v0 v1 p0 p1 p2 p3; have k1 := (K1.out.alloc (.cells #[.int .i64 0, .bool false, .int .i64 0, .int .i64 0, .int .i64 0, .int .i64 0] 42)).drew.below hb; have kb := (KB1.out.alloc (.cells #[.int .i64 0, .bool false, .int .i64 0, .int .i64 0, .int .i64 0, .int .i64 0] 42)).drew.below hb; have k0 := (K0.out.alloc (.cells #[.int .i64 0, .bool false, .int .i64 0, .int .i64 0, .int .i64 0, .int .i64 0] 42)).drew.below hb; have k2 := (K2.out.alloc (.cells #[.int .i64 0, .bool false, .int .i64 0, .int .i64 0, .int .i64 0, .int .i64 0] 42)).drew.below hb; have p0 := (((HB2.out.alloc HB2.out.size (.cells #[.int .i64 0, .bool false, .int .i64 0, .int .i64 0, .int .i64 0, .int .i64 0] 42)).drew.trans (hb.mono (HB2.out.alloc HB2.out.size (.cells #[.int .i64 0, .bool false, .int .i64 0, .int .i64 0, .int .i64 0, .int .i64 0] 42)).drew.size)).cell (p := ⟨pb, poff + q * 4, none⟩) HM.out.2).trans PP.out.1; have p1 := (((HB2.out.alloc HB2.out.size (.cells #[.int .i64 0, .bool false, .int .i64 0, .int .i64 0, .int .i64 0, .int .i64 0] 42)).drew.trans (hb.mono (HB2.out.alloc HB2.out.size (.cells #[.int .i64 0, .bool false, .int .i64 0, .int .i64 0, .int .i64 0, .int .i64 0] 42)).drew.size)).cell (p := ⟨pb, poff + q * 4 + 1, none⟩) HM.out.2).trans PP.out.2.1; have p2 := (((HB2.out.alloc HB2.out.size (.cells #[.int .i64 0, .bool false, .int .i64 0, .int .i64 0, .int .i64 0, .int .i64 0] 42)).drew.trans (hb.mono (HB2.out.alloc HB2.out.size (.cells #[.int .i64 0, .bool false, .int .i64 0, .int .i64 0, .int .i64 0, .int .i64 0] 42)).drew.size)).cell (p := ⟨pb, poff + q * 4 + 2, none⟩) HM.out.2).trans PP.out.2.2.1; have p3 := (((HB2.out.alloc HB2.out.size (.cells #[.int .i64 0, .bool false, .int .i64 0, .int .i64 0, .int .i64 0, .int .i64 0] 42)).drew.trans (hb.mono (HB2.out.alloc HB2.out.size (.cells #[.int .i64 0, .bool false, .int .i64 0, .int .i64 0, .int .i64 0, .int .i64 0] 42)).drew.size)).cell (p := ⟨pb, poff + q * 4 + 3, none⟩) HM.out.2).trans PP.out.2.2.2; have n0 := kb.cell 0 _ rfl; have a0 := k0.cell 0 _ rfl; have a1 := k0.cell 1 _ rfl; have a2 := k0.cell 2 _ rfl; have a3 := k0.cell 3 _ rfl; have v0 := k2.cell 0 _ rfl; have v1 := k2.cell 1 _ rfl; clear k0 k2; have bR := (BlkL.new WA [.int .i64 0, .bool false, .int .i64 0, .int .i64 0, .int .i64 0, .int .i64 0] 42).drew.below hb; have HB3 := Lib.hid ((HB2.out.alloc HB2.out.size (.cells #[.int .i64 0, .bool false, .int .i64 0, .int .i64 0, .int .i64 0, .int .i64 0] 42)).drew.trans (hb.mono (HB2.out.alloc HB2.out.size (.cells #[.int .i64 0, .bool false, .int .i64 0, .int .i64 0, .int .i64 0, .int .i64 0] 42)).drew.size)); have hs3 : WA.heap.size + 1 ≤ w3.heap.size := szB hb (show WA.heap.size + 1 ≤ (WA.alloc (.cells #[.int .i64 0, .bool false, .int .i64 0, .int .i64 0, .int .i64 0, .int .i64 0] 42)).heap.size by simp); have HO := Lib.hid ho; clear hb ho; have xR0 := bR.cell 0 _ rfl; have xR1 := bR.cell 1 _ rfl; have xR2 := bR.cell 2 _ rfl; have xR3 := bR.cell 3 _ rfl; have xR4 := bR.cell 4 _ rfl; have xR5 := bR.cell 5 _ rfl; have gR0 := bR.froz 0 (by simp); have gR1 := bR.froz 1 (by simp); have gR2 := bR.froz 2 (by simp); have gR3 := bR.froz 3 (by simp); have gR4 := bR.froz 4 (by simp); have gR5 := bR.froz 5 (by simp); have lR := bR.lt; have HR := Lib.hid bR; clear bR; have s31 : w3.heap.size < w3.heap.size + 1 := Nat.lt_succ_self _; have l1R := Nat.lt_succ_of_lt lR; have L1 := Lib.hid k1; have LB := Lib.hid kb; clear k1 kb) | (with_reducible refine (HD.out (WA.alloc (.cells #[.int .i64 0, .slice none 0 0] 83)).drew (HB2.out.alloc HB2.out.size (.cells #[.int .i64 0, .slice none 0 0] 83)).drew).mono ?_; rintro e w3 ⟨A', m', k', rfl, ho, hb⟩; clear a0 a1 a2 a3 n0 v0 v1 p0 p1 p2 p3; have k1 := (K1.out.alloc (.cells #[.int .i64 0, .slice none 0 0] 83)).drew.below hb; have kb := (KB1.out.alloc (.cells #[.int .i64 0, .slice none 0 0] 83)).drew.below hb; have k0 := (K0.out.alloc (.cells #[.int .i64 0, .slice none 0 0] 83)).drew.below hb; have k2 := (K2.out.alloc (.cells #[.int .i64 0, .slice none 0 0] 83)).drew.below hb; have p0 := (((HB2.out.alloc HB2.out.size (.cells #[.int .i64 0, .slice none 0 0] 83)).drew.trans (hb.mono (HB2.out.alloc HB2.out.size (.cells #[.int .i64 0, .slice none 0 0] 83)).drew.size)).cell (p := ⟨pb, poff + q * 4, none⟩) HM.out.2).trans PP.out.1; have p1 := (((HB2.out.alloc HB2.out.size (.cells #[.int .i64 0, .slice none 0 0] 83)).drew.trans (hb.mono (HB2.out.alloc HB2.out.size (.cells #[.int .i64 0, .slice none 0 0] 83)).drew.size)).cell (p := ⟨pb, poff + q * 4 + 1, none⟩) HM.out.2).trans PP.out.2.1; have p2 := (((HB2.out.alloc HB2.out.size (.cells #[.int .i64 0, .slice none 0 0] 83)).drew.trans (hb.mono (HB2.out.alloc HB2.out.size (.cells #[.int .i64 0, .slice none 0 0] 83)).drew.size)).cell (p := ⟨pb, poff + q * 4 + 2, none⟩) HM.out.2).trans PP.out.2.2.1; have p3 := (((HB2.out.alloc HB2.out.size (.cells #[.int .i64 0, .slice none 0 0] 83)).drew.trans (hb.mono (HB2.out.alloc HB2.out.size (.cells #[.int .i64 0, .slice none 0 0] 83)).drew.size)).cell (p := ⟨pb, poff + q * 4 + 3, none⟩) HM.out.2).trans PP.out.2.2.2; have n0 := kb.cell 0 _ rfl; have a0 := k0.cell 0 _ rfl; have a1 := k0.cell 1 _ rfl; have a2 := k0.cell 2 _ rfl; have a3 := k0.cell 3 _ rfl; have v0 := k2.cell 0 _ rfl; have v1 := k2.cell 1 _ rfl; clear k0 k2; have bC := (BlkL.new WA [.int .i64 0, .slice none 0 0] 83).drew.below hb; have HB3 := Lib.hid ((HB2.out.alloc HB2.out.size (.cells #[.int .i64 0, .slice none 0 0] 83)).drew.trans (hb.mono (HB2.out.alloc HB2.out.size (.cells #[.int .i64 0, .slice none 0 0] 83)).drew.size)); have hs3 : WA.heap.size + 1 ≤ w3.heap.size := szB hb (show WA.heap.size + 1 ≤ (WA.alloc (.cells #[.int .i64 0, .slice none 0 0] 83)).heap.size by simp); have HO := Lib.hid ho; clear hb ho; have xC0 := bC.cell 0 _ rfl; have xC1 := bC.cell 1 _ rfl; have gC0 := bC.froz 0 (by simp); have gC1 := bC.froz 1 (by simp); have lC := bC.lt; have HC := Lib.hid bC; clear bC; have s31 : w3.heap.size < w3.heap.size + 1 := Nat.lt_succ_self _; have l1C := Nat.lt_succ_of_lt lC; have L1 := Lib.hid k1; have LB := Lib.hid kb; clear k1 kb) | (with_reducible refine (HD.out ((WA.alloc (.cells #[.int .i64 0, .bool false, .int .i64 0, .int .i64 0, .int .i64 0, .int .i64 0] 42)).alloc (.cells #[.int .i64 0, .slice none 0 0] 83)).drew ((HB2.out.alloc HB2.out.size (.cells #[.int .i64 0, .bool false, .int .i64 0, .int .i64 0, .int .i64 0, .int .i64 0] 42)).alloc (HB2.out.alloc HB2.out.size (.cells #[.int .i64 0, .bool false, .int .i64 0, .int .i64 0, .int .i64 0, .int .i64 0] 42)).size (.cells #[.int .i64 0, .slice none 0 0] 83)).drew).mono ?_; rintro e w3 ⟨A', m', k', rfl, ho, hb⟩; clear a0 a1 a2 a3 n0 v0 v1 p0 p1 p2 p3; have k1 := ((K1.out.alloc (.cells #[.int .i64 0, .bool false, .int .i64 0, .int .i64 0, .int .i64 0, .int .i64 0] 42)).alloc (.cells #[.int .i64 0, .slice none 0 0] 83)).drew.below hb; have kb := ((KB1.out.alloc (.cells #[.int .i64 0, .bool false, .int .i64 0, .int .i64 0, .int .i64 0, .int .i64 0] 42)).alloc (.cells #[.int .i64 0, .slice none 0 0] 83)).drew.below hb; have k0 := ((K0.out.alloc (.cells #[.int .i64 0, .bool false, .int .i64 0, .int .i64 0, .int .i64 0, .int .i64 0] 42)).alloc (.cells #[.int .i64 0, .slice none 0 0] 83)).drew.below hb; have k2 := ((K2.out.alloc (.cells #[.int .i64 0, .bool false, .int .i64 0, .int .i64 0, .int .i64 0, .int .i64 0] 42)).alloc (.cells #[.int .i64 0, .slice none 0 0] 83)).drew.below hb; have p0 := ((((HB2.out.alloc HB2.out.size (.cells #[.int .i64 0, .bool false, .int .i64 0, .int .i64 0, .int .i64 0, .int .i64 0] 42)).alloc (HB2.out.alloc HB2.out.size (.cells #[.int .i64 0, .bool false, .int .i64 0, .int .i64 0, .int .i64 0, .int .i64 0] 42)).size (.cells #[.int .i64 0, .slice none 0 0] 83)).drew.trans (hb.mono ((HB2.out.alloc HB2.out.size (.cells #[.int .i64 0, .bool false, .int .i64 0, .int .i64 0, .int .i64 0, .int .i64 0] 42)).alloc (HB2.out.alloc HB2.out.size (.cells #[.int .i64 0, .bool false, .int .i64 0, .int .i64 0, .int .i64 0, .int .i64 0] 42)).size (.cells #[.int .i64 0, .slice none 0 0] 83)).drew.size)).cell (p := ⟨pb, poff + q * 4, none⟩) HM.out.2).trans PP.out.1; have p1 := ((((HB2.out.alloc HB2.out.size (.cells #[.int .i64 0, .bool false, .int .i64 0, .int .i64 0, .int .i64 0, .int .i64 0] 42)).alloc (HB2.out.alloc HB2.out.size (.cells #[.int .i64 0, .bool false, .int .i64 0, .int .i64 0, .int .i64 0, .int .i64 0] 42)).size (.cells #[.int .i64 0, .slice none 0 0] 83)).drew.trans (hb.mono ((HB2.out.alloc HB2.out.size (.cells #[.int .i64 0, .bool false, .int .i64 0, .int .i64 0, .int .i64 0, .int .i64 0] 42)).alloc (HB2.out.alloc HB2.out.size (.cells #[.int .i64 0, .bool false, .int .i64 0, .int .i64 0, .int .i64 0, .int .i64 0] 42)).size (.cells #[.int .i64 0, .slice none 0 0] 83)).drew.size)).cell (p := ⟨pb, poff + q * 4 + 1, none⟩) HM.out.2).trans PP.out.2.1; have p2 := ((((HB2.out.alloc HB2.out.size (.cells #[.int .i64 0, .bool false, .int .i64 0, .int .i64 0, .int .i64 0, .int .i64 0] 42)).alloc (HB2.out.alloc HB2.out.size (.cells #[.int .i64 0, .bool false, .int .i64 0, .int .i64 0, .int .i64 0, .int .i64 0] 42)).size (.cells #[.int .i64 0, .slice none 0 0] 83)).drew.trans (hb.mono ((HB2.out.alloc HB2.out.size (.cells #[.int .i64 0, .bool false, .int .i64 0, .int .i64 0, .int .i64 0, .int .i64 0] 42)).alloc (HB2.out.alloc HB2.out.size (.cells #[.int .i64 0, .bool false, .int .i64 0, .int .i64 0, .int .i64 0, .int .i64 0] 42)).size (.cells #[.int .i64 0, .slice none 0 0] 83)).drew.size)).cell (p := ⟨pb, poff + q * 4 + 2, none⟩) HM.out.2).trans PP.out.2.2.1; have p3 := ((((HB2.out.alloc HB2.out.size (.cells #[.int .i64 0, .bool false, .int .i64 0, .int .i64 0, .int .i64 0, .int .i64 0] 42)).alloc (HB2.out.alloc HB2.out.size (.cells #[.int .i64 0, .bool false, .int .i64 0, .int .i64 0, .int .i64 0, .int .i64 0] 42)).size (.cells #[.int .i64 0, .slice none 0 0] 83)).drew.trans (hb.mono ((HB2.out.alloc HB2.out.size (.cells #[.int .i64 0, .bool false, .int .i64 0, .int .i64 0, .int .i64 0, .int .i64 0] 42)).alloc (HB2.out.alloc HB2.out.size (.cells #[.int .i64 0, .bool false, .int .i64 0, .int .i64 0, .int .i64 0, .int .i64 0] 42)).size (.cells #[.int .i64 0, .slice none 0 0] 83)).drew.size)).cell (p := ⟨pb, poff + q * 4 + 3, none⟩) HM.out.2).trans PP.out.2.2.2; have n0 := kb.cell 0 _ rfl; have a0 := k0.cell 0 _ rfl; have a1 := k0.cell 1 _ rfl; have a2 := k0.cell 2 _ rfl; have a3 := k0.cell 3 _ rfl; have v0 := k2.cell 0 _ rfl; have v1 := k2.cell 1 _ rfl; clear k0 k2; have bR := ((BlkL.new WA [.int .i64 0, .bool false, .int .i64 0, .int .i64 0, .int .i64 0, .int .i64 0] 42).alloc (.cells #[.int .i64 0, .slice none 0 0] 83)).drew.below hb; have bC := (BlkL.new (WA.alloc (.cells #[.int .i64 0, .bool false, .int .i64 0, .int .i64 0, .int .i64 0, .int .i64 0] 42)) [.int .i64 0, .slice none 0 0] 83).drew.below hb; simp only [World.size_alloc] at bC; have HB3 := Lib.hid (((HB2.out.alloc HB2.out.size (.cells #[.int .i64 0, .bool false, .int .i64 0, .int .i64 0, .int .i64 0, .int .i64 0] 42)).alloc (HB2.out.alloc HB2.out.size (.cells #[.int .i64 0, .bool false, .int .i64 0, .int .i64 0, .int .i64 0, .int .i64 0] 42)).size (.cells #[.int .i64 0, .slice none 0 0] 83)).drew.trans (hb.mono ((HB2.out.alloc HB2.out.size (.cells #[.int .i64 0, .bool false, .int .i64 0, .int .i64 0, .int .i64 0, .int .i64 0] 42)).alloc (HB2.out.alloc HB2.out.size (.cells #[.int .i64 0, .bool false, .int .i64 0, .int .i64 0, .int .i64 0, .int .i64 0] 42)).size (.cells #[.int .i64 0, .slice none 0 0] 83)).drew.size)); have hs3 : WA.heap.size + 2 ≤ w3.heap.size := szB hb (show WA.heap.size + 2 ≤ ((WA.alloc (.cells #[.int .i64 0, .bool false, .int .i64 0, .int .i64 0, .int .i64 0, .int .i64 0] 42)).alloc (.cells #[.int .i64 0, .slice none 0 0] 83)).heap.size by simp); have HO := Lib.hid ho; clear hb ho; have xR0 := bR.cell 0 _ rfl; have xR1 := bR.cell 1 _ rfl; have xR2 := bR.cell 2 _ rfl; have xR3 := bR.cell 3 _ rfl; have xR4 := bR.cell 4 _ rfl; have xR5 := bR.cell 5 _ rfl; have gR0 := bR.froz 0 (by simp); have gR1 := bR.froz 1 (by simp); have gR2 := bR.froz 2 (by simp); have gR3 := bR.froz 3 (by simp); have gR4 := bR.froz 4 (by simp); have gR5 := bR.froz 5 (by simp); have lR := bR.lt; have HR := Lib.hid bR; clear bR; have xC0 := bC.cell 0 _ rfl; have xC1 := bC.cell 1 _ rfl; have gC0 := bC.froz 0 (by simp); have gC1 := bC.froz 1 (by simp); have lC := bC.lt; have HC := Lib.hid bC; clear bC; have s31 : w3.heap.size < w3.heap.size + 1 := Nat.lt_succ_self _; have l1R := Nat.lt_succ_of_lt lR; have l1C := Nat.lt_succ_of_lt lC; have L1 := Lib.hid k1; have LB := Lib.hid kb; clear k1 kb) | (with_reducible refine (HD.out ((WA.alloc (.cells #[.int .i64 0, .slice none 0 0] 83)).alloc (.cells #[.int .i64 0, .bool false, .int .i64 0, .int .i64 0, .int .i64 0, .int .i64 0] 42)).drew ((HB2.out.alloc HB2.out.size (.cells #[.int .i64 0, .slice none 0 0] 83)).alloc (HB2.out.alloc HB2.out.size (.cells #[.int .i64 0, .slice none 0 0] 83)).size (.cells #[.int .i64 0, .bool false, .int .i64 0, .int .i64 0, .int .i64 0, .int .i64 0] 42)).drew).mono ?_; rintro e w3 ⟨A', m', k', rfl, ho, hb⟩; clear a0 a1 a2 a3 n0 v0 v1 p0 p1 p2 p3; have k1 := ((K1.out.alloc (.cells #[.int .i64 0, .slice none 0 0] 83)).alloc (.cells #[.int .i64 0, .bool false, .int .i64 0, .int .i64 0, .int .i64 0, .int .i64 0] 42)).drew.below hb; have kb := ((KB1.out.alloc (.cells #[.int .i64 0, .slice none 0 0] 83)).alloc (.cells #[.int .i64 0, .bool false, .int .i64 0, .int .i64 0, .int .i64 0, .int .i64 0] 42)).drew.below hb; have k0 := ((K0.out.alloc (.cells #[.int .i64 0, .slice none 0 0] 83)).alloc (.cells #[.int .i64 0, .bool false, .int .i64 0, .int .i64 0, .int .i64 0, .int .i64 0] 42)).drew.below hb; have k2 := ((K2.out.alloc (.cells #[.int .i64 0, .slice none 0 0] 83)).alloc (.cells #[.int .i64 0, .bool false, .int .i64 0, .int .i64 0, .int .i64 0, .int .i64 0] 42)).drew.below hb; have p0 := ((((HB2.out.alloc HB2.out.size (.cells #[.int .i64 0, .slice none 0 0] 83)).alloc (HB2.out.alloc HB2.out.size (.cells #[.int .i64 0, .slice none 0 0] 83)).size (.cells #[.int .i64 0, .bool false, .int .i64 0, .int .i64 0, .int .i64 0, .int .i64 0] 42)).drew.trans (hb.mono ((HB2.out.alloc HB2.out.size (.cells #[.int .i64 0, .slice none 0 0] 83)).alloc (HB2.out.alloc HB2.out.size (.cells #[.int .i64 0, .slice none 0 0] 83)).size (.cells #[.int .i64 0, .bool false, .int .i64 0, .int .i64 0, .int .i64 0, .int .i64 0] 42)).drew.size)).cell (p := ⟨pb, poff + q * 4, none⟩) HM.out.2).trans PP.out.1; have p1 := ((((HB2.out.alloc HB2.out.size (.cells #[.int .i64 0, .slice none 0 0] 83)).alloc (HB2.out.alloc HB2.out.size (.cells #[.int .i64 0, .slice none 0 0] 83)).size (.cells #[.int .i64 0, .bool false, .int .i64 0, .int .i64 0, .int .i64 0, .int .i64 0] 42)).drew.trans (hb.mono ((HB2.out.alloc HB2.out.size (.cells #[.int .i64 0, .slice none 0 0] 83)).alloc (HB2.out.alloc HB2.out.size (.cells #[.int .i64 0, .slice none 0 0] 83)).size (.cells #[.int .i64 0, .bool false, .int .i64 0, .int .i64 0, .int .i64 0, .int .i64 0] 42)).drew.size)).cell (p := ⟨pb, poff + q * 4 + 1, none⟩) HM.out.2).trans PP.out.2.1; have p2 := ((((HB2.out.alloc HB2.out.size (.cells #[.int .i64 0, .slice none 0 0] 83)).alloc (HB2.out.alloc HB2.out.size (.cells #[.int .i64 0, .slice none 0 0] 83)).size (.cells #[.int .i64 0, .bool false, .int .i64 0, .int .i64 0, .int .i64 0, .int .i64 0] 42)).drew.trans (hb.mono ((HB2.out.alloc HB2.out.size (.cells #[.int .i64 0, .slice none 0 0] 83)).alloc (HB2.out.alloc HB2.out.size (.cells #[.int .i64 0, .slice none 0 0] 83)).size (.cells #[.int .i64 0, .bool false, .int .i64 0, .int .i64 0, .int .i64 0, .int .i64 0] 42)).drew.size)).cell (p := ⟨pb, poff + q * 4 + 2, none⟩) HM.out.2).trans PP.out.2.2.1; have p3 := ((((HB2.out.alloc HB2.out.size (.cells #[.int .i64 0, .slice none 0 0] 83)).alloc (HB2.out.alloc HB2.out.size (.cells #[.int .i64 0, .slice none 0 0] 83)).size (.cells #[.int .i64 0, .bool false, .int .i64 0, .int .i64 0, .int .i64 0, .int .i64 0] 42)).drew.trans (hb.mono ((HB2.out.alloc HB2.out.size (.cells #[.int .i64 0, .slice none 0 0] 83)).alloc (HB2.out.alloc HB2.out.size (.cells #[.int .i64 0, .slice none 0 0] 83)).size (.cells #[.int .i64 0, .bool false, .int .i64 0, .int .i64 0, .int .i64 0, .int .i64 0] 42)).drew.size)).cell (p := ⟨pb, poff + q * 4 + 3, none⟩) HM.out.2).trans PP.out.2.2.2; have n0 := kb.cell 0 _ rfl; have a0 := k0.cell 0 _ rfl; have a1 := k0.cell 1 _ rfl; have a2 := k0.cell 2 _ rfl; have a3 := k0.cell 3 _ rfl; have v0 := k2.cell 0 _ rfl; have v1 := k2.cell 1 _ rfl; clear k0 k2; have bC := ((BlkL.new WA [.int .i64 0, .slice none 0 0] 83).alloc (.cells #[.int .i64 0, .bool false, .int .i64 0, .int .i64 0, .int .i64 0, .int .i64 0] 42)).drew.below hb; have bR := (BlkL.new (WA.alloc (.cells #[.int .i64 0, .slice none 0 0] 83)) [.int .i64 0, .bool false, .int .i64 0, .int .i64 0, .int .i64 0, .int .i64 0] 42).drew.below hb; simp only [World.size_alloc] at bR; have HB3 := Lib.hid (((HB2.out.alloc HB2.out.size (.cells #[.int .i64 0, .slice none 0 0] 83)).alloc (HB2.out.alloc HB2.out.size (.cells #[.int .i64 0, .slice none 0 0] 83)).size (.cells #[.int .i64 0, .bool false, .int .i64 0, .int .i64 0, .int .i64 0, .int .i64 0] 42)).drew.trans (hb.mono ((HB2.out.alloc HB2.out.size (.cells #[.int .i64 0, .slice none 0 0] 83)).alloc (HB2.out.alloc HB2.out.size (.cells #[.int .i64 0, .slice none 0 0] 83)).size (.cells #[.int .i64 0, .bool false, .int .i64 0, .int .i64 0, .int .i64 0, .int .i64 0] 42)).drew.size)); have hs3 : WA.heap.size + 2 ≤ w3.heap.size := szB hb (show WA.heap.size + 2 ≤ ((WA.alloc (.cells #[.int .i64 0, .slice none 0 0] 83)).alloc (.cells #[.int .i64 0, .bool false, .int .i64 0, .int .i64 0, .int .i64 0, .int .i64 0] 42)).heap.size by simp); have HO := Lib.hid ho; clear hb ho; have xR0 := bR.cell 0 _ rfl; have xR1 := bR.cell 1 _ rfl; have xR2 := bR.cell 2 _ rfl; have xR3 := bR.cell 3 _ rfl; have xR4 := bR.cell 4 _ rfl; have xR5 := bR.cell 5 _ rfl; have gR0 := bR.froz 0 (by simp); have gR1 := bR.froz 1 (by simp); have gR2 := bR.froz 2 (by simp); have gR3 := bR.froz 3 (by simp); have gR4 := bR.froz 4 (by simp); have gR5 := bR.froz 5 (by simp); have lR := bR.lt; have HR := Lib.hid bR; clear bR; have xC0 := bC.cell 0 _ rfl; have xC1 := bC.cell 1 _ rfl; have gC0 := bC.froz 0 (by simp); have gC1 := bC.froz 1 (by simp); have lC := bC.lt; have HC := Lib.hid bC; clear bC; have s31 : w3.heap.size < w3.heap.size + 1 := Nat.lt_succ_self _; have l1C := Nat.lt_succ_of_lt lC; have l1R := Nat.lt_succ_of_lt lR; have L1 := Lib.hid k1; have LB := Lib.hid kb; clear k1 kb)))
  · rename_i hHd
    clear hHd
    have bR := ((BlkL.new w3 [.int .i64 r0, .bool r1, .int .i64 r2, .int .i64 r3, .int .i64 r4, .int .i64 r5] 42).alloc (.cells #[.int .i64 t', .slice A' m' k'] 83))
    have bC := (BlkL.new (w3.alloc (.cells #[.int .i64 r0, .bool r1, .int .i64 r2, .int .i64 r3, .int .i64 r4, .int .i64 r5] 42)) [.int .i64 t', .slice A' m' k'] 83)
    have k1 := ((L1.out.alloc (.cells #[.int .i64 r0, .bool r1, .int .i64 r2, .int .i64 r3, .int .i64 r4, .int .i64 r5] 42)).alloc (.cells #[.int .i64 t', .slice A' m' k'] 83))
    have kb := ((LB.out.alloc (.cells #[.int .i64 r0, .bool r1, .int .i64 r2, .int .i64 r3, .int .i64 r4, .int .i64 r5] 42)).alloc (.cells #[.int .i64 t', .slice A' m' k'] 83))
    have hb := ((HB3.out.alloc HB3.out.size (.cells #[.int .i64 r0, .bool r1, .int .i64 r2, .int .i64 r3, .int .i64 r4, .int .i64 r5] 42)).alloc (HB3.out.alloc HB3.out.size (.cells #[.int .i64 r0, .bool r1, .int .i64 r2, .int .i64 r3, .int .i64 r4, .int .i64 r5] 42)).size (.cells #[.int .i64 t', .slice A' m' k'] 83))
    have ha := (((Above.refl (WA.drew.heap.size) w3).alloc (.cells #[.int .i64 r0, .bool r1, .int .i64 r2, .int .i64 r3, .int .i64 r4, .int .i64 r5] 42)).alloc (.cells #[.int .i64 t', .slice A' m' k'] 83))
    simp only [World.size_alloc, List.toArray] at bR bC
    have hz1 : w.heap.size + 1 ≠ w3.heap.size := by have := HY.out.1; omega
    clear y0 y2 yb yp n0 a0 a1 a2 a3 v0 v1 p0 p1 p2 p3  s31
    generalize World.alloc _ _ = WE at bR bC k1 kb hb ha ⊢
    have hown := HO.out trivial
    have hB1 : mb < (WA.drew.heap.size) := Nat.lt_of_lt_of_le HM.out.1 (Nat.le_trans HB2.out.size (show WA.heap.size ≤ (WA).heap.size by first | exact Nat.le_refl _ | (simp only [World.size_alloc]; omega)))
    have hB2 : w.heap.size + 1 < (WA.drew.heap.size) := Nat.lt_of_lt_of_le HY.out.1 (show WA.heap.size ≤ (WA).heap.size by first | exact Nat.le_refl _ | (simp only [World.size_alloc]; omega))
    generalize (WA.drew.heap.size) = BZ at ha hown hB1 hB2
    have n1 := kb.cell 1 _ rfl
    have n2 := kb.cell 2 _ rfl
    have hRm : (w3.heap.size) ≠ mb := by have := HM.out.1; have := HB2.out.size; have := HB3.out.size; omega
    have hKm : w.heap.size + 1 ≠ mb := by have := HM.out.1; omega
    have hlen := HN.out WE.drew hb.drew
    have KR := Lib.hid bR
    have KC := Lib.hid bC
    have K9 := Lib.hid k1
    have HB9 := Lib.hid hb
    have HA9 := Lib.hid ha
    have HW9 := Lib.hid hown
    clear bR bC k1 kb hb ha hown HO HD L1 LB HB3 HKB KB1 K0 K1 K2 HB2
    go_wp2_with fail
    go_region
    obtain ⟨W9, hrun, hturn, hpu⟩ := HU.out WE.drew.drew (.agg #[.int .i64 t', .slice A' m' k']) HB9.out.drew.drew
    have hof := Off.of_turned hturn
    have v0 := KC.out.cell 0 _ rfl
    have v1 := KC.out.cell 1 _ rfl
    have HT := Lib.hid hof
    have HP := Lib.hid hpu
    clear hturn hof hpu hlen
    go_wp2_with fail
    go_region
    clear v0 v1 hrun n1 n2
    have bR := (KR.out.drew.drew).off HT.out (by simpa using hRm)
    have k1 := (K9.out.drew.drew).off HT.out (by simpa using hKm)
    have c0 := bR.cell 0 _ rfl
    have c1 := bR.cell 1 _ rfl
    have c2 := bR.cell 2 _ rfl
    have c3 := bR.cell 3 _ rfl
    have c4 := bR.cell 4 _ rfl
    have c5 := bR.cell 5 _ rfl
    have d0 := k1.cell 0 _ rfl
    have d1 := k1.cell 1 _ rfl
    have d2 := k1.cell 2 _ rfl
    have d3 := k1.cell 3 _ rfl
    have d4 := k1.cell 4 _ rfl
    have d5 := k1.cell 5 _ rfl
    have f0 := k1.froz 0 (by simp)
    have f1 := k1.froz 1 (by simp)
    have f2 := k1.froz 2 (by simp)
    have f3 := k1.froz 3 (by simp)
    have f4 := k1.froz 4 (by simp)
    have f5 := k1.froz 5 (by simp)
    have K9 := Lib.hid k1
    clear bR k1 KR KC
    go_wp2_with fail
    have bz := K9.out.put6 (.int .i64 r0) (.bool r1) (.int .i64 r2) (.int .i64 r3) (.int .i64 r4) (.int .i64 r5)
    have hoz := ((((((((Off.of_below (S := [mb]) HB9.out).drew.drew.trans HT.out).setNew (p := ⟨w.heap.size + 1, 0, none⟩) (by simp) (.int .i64 r0)).setNew (p := ⟨w.heap.size + 1, 1, none⟩) (by simp) (.bool r1)).setNew (p := ⟨w.heap.size + 1, 2, none⟩) (by simp) (.int .i64 r2)).setNew (p := ⟨w.heap.size + 1, 3, none⟩) (by simp) (.int .i64 r3)).setNew (p := ⟨w.heap.size + 1, 4, none⟩) (by simp) (.int .i64 r4)).setNew (p := ⟨w.heap.size + 1, 5, none⟩) (by simp) (.int .i64 r5))
    have haz := (HA9.out.drew.drew.off HT.out hB1).put6 (b := w.heap.size + 1) hB2 (.int .i64 r0) (.bool r1) (.int .i64 r2) (.int .i64 r3) (.int .i64 r4) (.int .i64 r5)
    have hpz := hPU _ _ ⟨w.heap.size + 1, 5, none⟩ (.int .i64 r5) hKm (hPU _ _ ⟨w.heap.size + 1, 4, none⟩ (.int .i64 r4) hKm (hPU _ _ ⟨w.heap.size + 1, 3, none⟩ (.int .i64 r3) hKm (hPU _ _ ⟨w.heap.size + 1, 2, none⟩ (.int .i64 r2) hKm (hPU _ _ ⟨w.heap.size + 1, 1, none⟩ (.bool r1) hKm (hPU _ _ ⟨w.heap.size + 1, 0, none⟩ (.int .i64 r0) hKm HP.out)))))
    have e0 := bz.cell 0 _ rfl
    have e1 := bz.cell 1 _ rfl
    have e2 := bz.cell 2 _ rfl
    have e3 := bz.cell 3 _ rfl
    have e4 := bz.cell 4 _ rfl
    have e5 := bz.cell 5 _ rfl
    have how := (HW9.out.above haz).mono (B' := w.heap.size) (by omega)
    clear bz haz K9 HB9 HA9 HW9 HT HP c0 d0 f0 c1 d1 f1 c2 d2 f2 c3 d3 f3 c4 d4 f4 c5 d5 f5
    generalize World.setCell _ _ _ = WZ at e0 e1 e2 e3 e4 e5 hoz hpz how ⊢
    exact bodyPost_ret (v := .agg #[.int .i64 r0, .bool r1, .int .i64 r2, .int .i64 r3, .int .i64 r4, .int .i64 r5]) (by simp [results, Try.results35, go_sem, e0, e1, e2, e3, e4, e5]) rfl ⟨rfl, A', m', k', how, hpz, hoz⟩
  · rename_i hHd
    clear hHd
    have bR := (BlkL.new (w3.alloc (.cells #[.int .i64 t', .slice A' m' k'] 83)) [.int .i64 r0, .bool r1, .int .i64 r2, .int .i64 r3, .int .i64 r4, .int .i64 r5] 42)
    have bC := ((BlkL.new w3 [.int .i64 t', .slice A' m' k'] 83).alloc (.cells #[.int .i64 r0, .bool r1, .int .i64 r2, .int .i64 r3, .int .i64 r4, .int .i64 r5] 42))
    have k1 := ((L1.out.alloc (.cells #[.int .i64 t', .slice A' m' k'] 83)).alloc (.cells #[.int .i64 r0, .bool r1, .int .i64 r2, .int .i64 r3, .int .i64 r4, .int .i64 r5] 42))
    have kb := ((LB.out.alloc (.cells #[.int .i64 t', .slice A' m' k'] 83)).alloc (.cells #[.int .i64 r0, .bool r1, .int .i64 r2, .int .i64 r3, .int .i64 r4, .int .i64 r5] 42))
    have hb := ((HB3.out.alloc HB3.out.size (.cells #[.int .i64 t', .slice A' m' k'] 83)).alloc (HB3.out.alloc HB3.out.size (.cells #[.int .i64 t', .slice A' m' k'] 83)).size (.cells #[.int .i64 r0, .bool r1, .int .i64 r2, .int .i64 r3, .int .i64 r4, .int .i64 r5] 42))
    have ha := (((Above.refl (WA.drew.heap.size) w3).alloc (.cells #[.int .i64 t', .slice A' m' k'] 83)).alloc (.cells #[.int .i64 r0, .bool r1, .int .i64 r2, .int .i64 r3, .int .i64 r4, .int .i64 r5] 42))
    simp only [World.size_alloc, List.toArray] at bR bC
    have hz1 : w.heap.size + 1 ≠ w3.heap.size + 1 := by have := HY.out.1; omega
    clear y0 y2 yb yp n0 a0 a1 a2 a3 v0 v1 p0 p1 p2 p3  s31
    generalize World.alloc _ _ = WE at bR bC k1 kb hb ha ⊢
    have hown := HO.out trivial
    have hB1 : mb < (WA.drew.heap.size) := Nat.lt_of_lt_of_le HM.out.1 (Nat.le_trans HB2.out.size (show WA.heap.size ≤ (WA).heap.size by first | exact Nat.le_refl _ | (simp only [World.size_alloc]; omega)))
    have hB2 : w.heap.size + 1 < (WA.drew.heap.size) := Nat.lt_of_lt_of_le HY.out.1 (show WA.heap.size ≤ (WA).heap.size by first | exact Nat.le_refl _ | (simp only [World.size_alloc]; omega))
    generalize (WA.drew.heap.size) = BZ at ha hown hB1 hB2
    have n1 := kb.cell 1 _ rfl
    have n2 := kb.cell 2 _ rfl
    have hRm : (w3.heap.size + 1) ≠ mb := by have := HM.out.1; have := HB2.out.size; have := HB3.out.size; omega
    have hKm : w.heap.size + 1 ≠ mb := by have := HM.out.1; omega
    have hlen := HN.out WE.drew hb.drew
    have KR := Lib.hid bR
    have KC := Lib.hid bC
    have K9 := Lib.hid k1
    have HB9 := Lib.hid hb
    have HA9 := Lib.hid ha
    have HW9 := Lib.hid hown
    clear bR bC k1 kb hb ha hown HO HD L1 LB HB3 HKB KB1 K0 K1 K2 HB2
    go_wp2_with fail
    go_region
    obtain ⟨W9, hrun, hturn, hpu⟩ := HU.out WE.drew.drew (.agg #[.int .i64 t', .slice A' m' k']) HB9.out.drew.drew
    have hof := Off.of_turned hturn
    have v0 := KC.out.cell 0 _ rfl
    have v1 := KC.out.cell 1 _ rfl
    have HT := Lib.hid hof
    have HP := Lib.hid hpu
    clear hturn hof hpu hlen
    go_wp2_with fail
    go_region
    clear v0 v1 hrun n1 n2
    have bR := (KR.out.drew.drew).off HT.out (by simpa using hRm)
    have k1 := (K9.out.drew.drew).off HT.out (by simpa using hKm)
    have c0 := bR.cell 0 _ rfl
    have c1 := bR.cell 1 _ rfl
    have c2 := bR.cell 2 _ rfl
    have c3 := bR.cell 3 _ rfl
    have c4 := bR.cell 4 _ rfl
    have c5 := bR.cell 5 _ rfl
    have d0 := k1.cell 0 _ rfl
    have d1 := k1.cell 1 _ rfl
    have d2 := k1.cell 2 _ rfl
    have d3 := k1.cell 3 _ rfl
    have d4 := k1.cell 4 _ rfl
    have d5 := k1.cell 5 _ rfl
    have f0 := k1.froz 0 (by simp)
    have f1 := k1.froz 1 (by simp)
    have f2 := k1.froz 2 (by simp)
    have f3 := k1.froz 3 (by simp)
    have f4 := k1.froz 4 (by simp)
    have f5 := k1.froz 5 (by simp)
    have K9 := Lib.hid k1
    clear bR k1 KR KC
    go_wp2_with fail
    have bz := K9.out.put6 (.int .i64 r0) (.bool r1) (.int .i64 r2) (.int .i64 r3) (.int .i64 r4) (.int .i64 r5)
    have hoz := ((((((((Off.of_below (S := [mb]) HB9.out).drew.drew.trans HT.out).setNew (p := ⟨w.heap.size + 1, 0, none⟩) (by simp) (.int .i64 r0)).setNew (p := ⟨w.heap.size + 1, 1, none⟩) (by simp) (.bool r1)).setNew (p := ⟨w.heap.size + 1, 2, none⟩) (by simp) (.int .i64 r2)).setNew (p := ⟨w.heap.size + 1, 3, none⟩) (by simp) (.int .i64 r3)).setNew (p := ⟨w.heap.size + 1, 4, none⟩) (by simp) (.int .i64 r4)).setNew (p := ⟨w.heap.size + 1, 5, none⟩) (by simp) (.int .i64 r5))
    have haz := (HA9.out.drew.drew.off HT.out hB1).put6 (b := w.heap.size + 1) hB2 (.int .i64 r0) (.bool r1) (.int .i64 r2) (.int .i64 r3) (.int .i64 r4) (.int .i64 r5)
    have hpz := hPU _ _ ⟨w.heap.size + 1, 5, none⟩ (.int .i64 r5) hKm (hPU _ _ ⟨w.heap.size + 1, 4, none⟩ (.int .i64 r4) hKm (hPU _ _ ⟨w.heap.size + 1, 3, none⟩ (.int .i64 r3) hKm (hPU _ _ ⟨w.heap.size + 1, 2, none⟩ (.int .i64 r2) hKm (hPU _ _ ⟨w.heap.size + 1, 1, none⟩ (.bool r1) hKm (hPU _ _ ⟨w.heap.size + 1, 0, none⟩ (.int .i64 r0) hKm HP.out)))))
    have e0 := bz.cell 0 _ rfl
    have e1 := bz.cell 1 _ rfl
    have e2 := bz.cell 2 _ rfl
    have e3 := bz.cell 3 _ rfl
    have e4 := bz.cell 4 _ rfl
    have e5 := bz.cell 5 _ rfl
    have how := (HW9.out.above haz).mono (B' := w.heap.size) (by omega)
    clear bz haz K9 HB9 HA9 HW9 HT HP c0 d0 f0 c1 d1 f1 c2 d2 f2 c3 d3 f3 c4 d4 f4 c5 d5 f5
    generalize World.setCell _ _ _ = WZ at e0 e1 e2 e3 e4 e5 hoz hpz how ⊢
    exact bodyPost_ret (v := .agg #[.int .i64 r0, .bool r1, .int .i64 r2, .int .i64 r3, .int .i64 r4, .int .i64 r5]) (by simp [results, Try.results35, go_sem, e0, e1, e2, e3, e4, e5]) rfl ⟨rfl, A', m', k', how, hpz, hoz⟩
  · rename_i hHd
    clear hHd
    have bR := ((HR.out.put6 (.int .i64 r0) (.bool r1) (.int .i64 r2) (.int .i64 r3) (.int .i64 r4) (.int .i64 r5)).alloc (.cells #[.int .i64 t', .slice A' m' k'] 83))
    have bC := (BlkL.new ((((((w3.setCell ⟨WA.heap.size, 0, none⟩ (.int .i64 r0)).setCell ⟨WA.heap.size, 1, none⟩ (.bool r1)).setCell ⟨WA.heap.size, 2, none⟩ (.int .i64 r2)).setCell ⟨WA.heap.size, 3, none⟩ (.int .i64 r3)).setCell ⟨WA.heap.size, 4, none⟩ (.int .i64 r4)).setCell ⟨WA.heap.size, 5, none⟩ (.int .i64 r5)) [.int .i64 t', .slice A' m' k'] 83)
    have k1 := ((L1.out.other6 (b' := WA.heap.size) (by have := HY.out.1; omega) (.int .i64 r0) (.bool r1) (.int .i64 r2) (.int .i64 r3) (.int .i64 r4) (.int .i64 r5)).alloc (.cells #[.int .i64 t', .slice A' m' k'] 83))
    have kb := ((LB.out.other6 (b' := WA.heap.size) (by have := HY.out.2; omega) (.int .i64 r0) (.bool r1) (.int .i64 r2) (.int .i64 r3) (.int .i64 r4) (.int .i64 r5)).alloc (.cells #[.int .i64 t', .slice A' m' k'] 83))
    have hb := ((below_put6 HB3.out (b := WA.heap.size) (by have := HB2.out.size; omega) (.int .i64 r0) (.bool r1) (.int .i64 r2) (.int .i64 r3) (.int .i64 r4) (.int .i64 r5)).alloc (below_put6 HB3.out (b := WA.heap.size) (by have := HB2.out.size; omega) (.int .i64 r0) (.bool r1) (.int .i64 r2) (.int .i64 r3) (.int .i64 r4) (.int .i64 r5)).size (.cells #[.int .i64 t', .slice A' m' k'] 83))
    have ha := (((Above.refl ((WA.alloc (.cells #[.int .i64 0, .bool false, .int .i64 0, .int .i64 0, .int .i64 0, .int .i64 0] 42)).drew.heap.size) w3).put6 (b := WA.heap.size) (show WA.heap.size < ((WA.alloc (.cells #[.int .i64 0, .bool false, .int .i64 0, .int .i64 0, .int .i64 0, .int .i64 0] 42))).heap.size by simp only [World.size_alloc]; omega) (.int .i64 r0) (.bool r1) (.int .i64 r2) (.int .i64 r3) (.int .i64 r4) (.int .i64 r5)).alloc (.cells #[.int .i64 t', .slice A' m' k'] 83))
    simp only [size_sets, List.toArray] at bR bC
    have hz1 : w.heap.size + 1 ≠ WA.heap.size := by have := HY.out.1; omega
    clear y0 y2 yb yp n0 a0 a1 a2 a3 v0 v1 p0 p1 p2 p3 xR0 gR0 xR1 gR1 xR2 gR2 xR3 gR3 xR4 gR4 xR5 gR5 lR l1R HR s31
    generalize World.alloc _ _ = WE at bR bC k1 kb hb ha ⊢
    have hown := HO.out trivial
    have hB1 : mb < ((WA.alloc (.cells #[.int .i64 0, .bool false, .int .i64 0, .int .i64 0, .int .i64 0, .int .i64 0] 42)).drew.heap.size) := Nat.lt_of_lt_of_le HM.out.1 (Nat.le_trans HB2.out.size (show WA.heap.size ≤ ((WA.alloc (.cells #[.int .i64 0, .bool false, .int .i64 0, .int .i64 0, .int .i64 0, .int .i64 0] 42))).heap.size by first | exact Nat.le_refl _ | (simp only [World.size_alloc]; omega)))
    have hB2 : w.heap.size + 1 < ((WA.alloc (.cells #[.int .i64 0, .bool false, .int .i64 0, .int .i64 0, .int .i64 0, .int .i64 0] 42)).drew.heap.size) := Nat.lt_of_lt_of_le HY.out.1 (show WA.heap.size ≤ ((WA.alloc (.cells #[.int .i64 0, .bool false, .int .i64 0, .int .i64 0, .int .i64 0, .int .i64 0] 42))).heap.size by first | exact Nat.le_refl _ | (simp only [World.size_alloc]; omega))
    generalize ((WA.alloc (.cells #[.int .i64 0, .bool false, .int .i64 0, .int .i64 0, .int .i64 0, .int .i64 0] 42)).drew.heap.size) = BZ at ha hown hB1 hB2
    have n1 := kb.cell 1 _ rfl
    have n2 := kb.cell 2 _ rfl
    have hRm : (WA.heap.size) ≠ mb := by have := HM.out.1; have := HB2.out.size; have := HB3.out.size; omega
    have hKm : w.heap.size + 1 ≠ mb := by have := HM.out.1; omega
    have hlen := HN.out WE.drew hb.drew
    have KR := Lib.hid bR
    have KC := Lib.hid bC
    have K9 := Lib.hid k1
    have HB9 := Lib.hid hb
    have HA9 := Lib.hid ha
    have HW9 := Lib.hid hown
    clear bR bC k1 kb hb ha hown HO HD L1 LB HB3 HKB KB1 K0 K1 K2 HB2
    go_wp2_with fail
    go_region
    obtain ⟨W9, hrun, hturn, hpu⟩ := HU.out WE.drew.drew (.agg #[.int .i64 t', .slice A' m' k']) HB9.out.drew.drew
    have hof := Off.of_turned hturn
    have v0 := KC.out.cell 0 _ rfl
    have v1 := KC.out.cell 1 _ rfl
    have HT := Lib.hid hof
    have HP := Lib.hid hpu
    clear hturn hof hpu hlen
    go_wp2_with fail
    go_region
    clear v0 v1 hrun n1 n2
    have bR := (KR.out.drew.drew).off HT.out (by simpa using hRm)
    have k1 := (K9.out.drew.drew).off HT.out (by simpa using hKm)
    have c0 := bR.cell 0 _ rfl
    have c1 := bR.cell 1 _ rfl
    have c2 := bR.cell 2 _ rfl
    have c3 := bR.cell 3 _ rfl
    have c4 := bR.cell 4 _ rfl
    have c5 := bR.cell 5 _ rfl
    have d0 := k1.cell 0 _ rfl
    have d1 := k1.cell 1 _ rfl
    have d2 := k1.cell 2 _ rfl
    have d3 := k1.cell 3 _ rfl
    have d4 := k1.cell 4 _ rfl
    have d5 := k1.cell 5 _ rfl
    have f0 := k1.froz 0 (by simp)
    have f1 := k1.froz 1 (by simp)
    have f2 := k1.froz 2 (by simp)
    have f3 := k1.froz 3 (by simp)
    have f4 := k1.froz 4 (by simp)
    have f5 := k1.froz 5 (by simp)
    have K9 := Lib.hid k1
    clear bR k1 KR KC
    go_wp2_with fail
    have bz := K9.out.put6 (.int .i64 r0) (.bool r1) (.int .i64 r2) (.int .i64 r3) (.int .i64 r4) (.int .i64 r5)
    have hoz := ((((((((Off.of_below (S := [mb]) HB9.out).drew.drew.trans HT.out).setNew (p := ⟨w.heap.size + 1, 0, none⟩) (by simp) (.int .i64 r0)).setNew (p := ⟨w.heap.size + 1, 1, none⟩) (by simp) (.bool r1)).setNew (p := ⟨w.heap.size + 1, 2, none⟩) (by simp) (.int .i64 r2)).setNew (p := ⟨w.heap.size + 1, 3, none⟩) (by simp) (.int .i64 r3)).setNew (p := ⟨w.heap.size + 1, 4, none⟩) (by simp) (.int .i64 r4)).setNew (p := ⟨w.heap.size + 1, 5, none⟩) (by simp) (.int .i64 r5))
    have haz := (HA9.out.drew.drew.off HT.out hB1).put6 (b := w.heap.size + 1) hB2 (.int .i64 r0) (.bool r1) (.int .i64 r2) (.int .i64 r3) (.int .i64 r4) (.int .i64 r5)
    have hpz := hPU _ _ ⟨w.heap.size + 1, 5, none⟩ (.int .i64 r5) hKm (hPU _ _ ⟨w.heap.size + 1, 4, none⟩ (.int .i64 r4) hKm (hPU _ _ ⟨w.heap.size + 1, 3, none⟩ (.int .i64 r3) hKm (hPU _ _ ⟨w.heap.size + 1, 2, none⟩ (.int .i64 r2) hKm (hPU _ _ ⟨w.heap.size + 1, 1, none⟩ (.bool r1) hKm (hPU _ _ ⟨w.heap.size + 1, 0, none⟩ (.int .i64 r0) hKm HP.out)))))
    have e0 := bz.cell 0 _ rfl
    have e1 := bz.cell 1 _ rfl
    have e2 := bz.cell 2 _ rfl
    have e3 := bz.cell 3 _ rfl
    have e4 := bz.cell 4 _ rfl
    have e5 := bz.cell 5 _ rfl
    have how := (HW9.out.above haz).mono (B' := w.heap.size) (by omega)
    clear bz haz K9 HB9 HA9 HW9 HT HP c0 d0 f0 c1 d1 f1 c2 d2 f2 c3 d3 f3 c4 d4 f4 c5 d5 f5
    generalize World.setCell _ _ _ = WZ at e0 e1 e2 e3 e4 e5 hoz hpz how ⊢
    exact bodyPost_ret (v := .agg #[.int .i64 r0, .bool r1, .int .i64 r2, .int .i64 r3, .int .i64 r4, .int .i64 r5]) (by simp [results, Try.results35, go_sem, e0, e1, e2, e3, e4, e5]) rfl ⟨rfl, A', m', k', how, hpz, hoz⟩
  · rename_i hHd
    clear hHd
    have bR := ((HR.out.put6 (.int .i64 r0) (.bool r1) (.int .i64 r2) (.int .i64 r3) (.int .i64 r4) (.int .i64 r5)).other2 (b' := WA.heap.size + 1) (by omega) (.int .i64 t') (.slice A' m' k'))
    have bC := ((HC.out.other6 (b' := WA.heap.size) (by omega) (.int .i64 r0) (.bool r1) (.int .i64 r2) (.int .i64 r3) (.int .i64 r4) (.int .i64 r5)).put2 (.int .i64 t') (.slice A' m' k'))
    have k1 := ((L1.out.other6 (b' := WA.heap.size) (by have := HY.out.1; omega) (.int .i64 r0) (.bool r1) (.int .i64 r2) (.int .i64 r3) (.int .i64 r4) (.int .i64 r5)).other2 (b' := WA.heap.size + 1) (by have := HY.out.1; omega) (.int .i64 t') (.slice A' m' k'))
    have kb := ((LB.out.other6 (b' := WA.heap.size) (by have := HY.out.2; omega) (.int .i64 r0) (.bool r1) (.int .i64 r2) (.int .i64 r3) (.int .i64 r4) (.int .i64 r5)).other2 (b' := WA.heap.size + 1) (by have := HY.out.2; omega) (.int .i64 t') (.slice A' m' k'))
    have hb := (below_put2 (below_put6 HB3.out (b := WA.heap.size) (by have := HB2.out.size; omega) (.int .i64 r0) (.bool r1) (.int .i64 r2) (.int .i64 r3) (.int .i64 r4) (.int .i64 r5)) (b := WA.heap.size + 1) (by have := HB2.out.size; omega) (.int .i64 t') (.slice A' m' k'))
    have ha := (((Above.refl (((WA.alloc (.cells #[.int .i64 0, .bool false, .int .i64 0, .int .i64 0, .int .i64 0, .int .i64 0] 42)).alloc (.cells #[.int .i64 0, .slice none 0 0] 83)).drew.heap.size) w3).put6 (b := WA.heap.size) (show WA.heap.size < (((WA.alloc (.cells #[.int .i64 0, .bool false, .int .i64 0, .int .i64 0, .int .i64 0, .int .i64 0] 42)).alloc (.cells #[.int .i64 0, .slice none 0 0] 83))).heap.size by simp only [World.size_alloc]; omega) (.int .i64 r0) (.bool r1) (.int .i64 r2) (.int .i64 r3) (.int .i64 r4) (.int .i64 r5)).put2 (b := WA.heap.size + 1) (show WA.heap.size + 1 < (((WA.alloc (.cells #[.int .i64 0, .bool false, .int .i64 0, .int .i64 0, .int .i64 0, .int .i64 0] 42)).alloc (.cells #[.int .i64 0, .slice none 0 0] 83))).heap.size by simp only [World.size_alloc]; omega) (.int .i64 t') (.slice A' m' k'))
    have hz1 : w.heap.size + 1 ≠ WA.heap.size := by have := HY.out.1; omega
    clear y0 y2 yb yp n0 a0 a1 a2 a3 v0 v1 p0 p1 p2 p3 xR0 gR0 xR1 gR1 xR2 gR2 xR3 gR3 xR4 gR4 xR5 gR5 xC0 gC0 xC1 gC1 lR l1R HR lC l1C HC s31
    generalize World.setCell _ _ _ = WE at bR bC k1 kb hb ha ⊢
    have hown := HO.out trivial
    have hB1 : mb < (((WA.alloc (.cells #[.int .i64 0, .bool false, .int .i64 0, .int .i64 0, .int .i64 0, .int .i64 0] 42)).alloc (.cells #[.int .i64 0, .slice none 0 0] 83)).drew.heap.size) := Nat.lt_of_lt_of_le HM.out.1 (Nat.le_trans HB2.out.size (show WA.heap.size ≤ (((WA.alloc (.cells #[.int .i64 0, .bool false, .int .i64 0, .int .i64 0, .int .i64 0, .int .i64 0] 42)).alloc (.cells #[.int .i64 0, .slice none 0 0] 83))).heap.size by first | exact Nat.le_refl _ | (simp only [World.size_alloc]; omega)))
    have hB2 : w.heap.size + 1 < (((WA.alloc (.cells #[.int .i64 0, .bool false, .int .i64 0, .int .i64 0, .int .i64 0, .int .i64 0] 42)).alloc (.cells #[.int .i64 0, .slice none 0 0] 83)).drew.heap.size) := Nat.lt_of_lt_of_le HY.out.1 (show WA.heap.size ≤ (((WA.alloc (.cells #[.int .i64 0, .bool false, .int .i64 0, .int .i64 0, .int .i64 0, .int .i64 0] 42)).alloc (.cells #[.int .i64 0, .slice none 0 0] 83))).heap.size by first | exact Nat.le_refl _ | (simp only [World.size_alloc]; omega))
    generalize (((WA.alloc (.cells #[.int .i64 0, .bool false, .int .i64 0, .int .i64 0, .int .i64 0, .int .i64 0] 42)).alloc (.cells #[.int .i64 0, .slice none 0 0] 83)).drew.heap.size) = BZ at ha hown hB1 hB2
    have n1 := kb.cell 1 _ rfl
    have n2 := kb.cell 2 _ rfl
    have hRm : (WA.heap.size) ≠ mb := by have := HM.out.1; have := HB2.out.size; have := HB3.out.size; omega
    have hKm : w.heap.size + 1 ≠ mb := by have := HM.out.1; omega
    have hlen := HN.out WE.drew hb.drew
    have KR := Lib.hid bR
    have KC := Lib.hid bC
    have K9 := Lib.hid k1
    have HB9 := Lib.hid hb
    have HA9 := Lib.hid ha
    have HW9 := Lib.hid hown
    clear bR bC k1 kb hb ha hown HO HD L1 LB HB3 HKB KB1 K0 K1 K2 HB2
    go_wp2_with fail
    go_region
    obtain ⟨W9, hrun, hturn, hpu⟩ := HU.out WE.drew.drew (.agg #[.int .i64 t', .slice A' m' k']) HB9.out.drew.drew
    have hof := Off.of_turned hturn
    have v0 := KC.out.cell 0 _ rfl
    have v1 := KC.out.cell 1 _ rfl
    have HT := Lib.hid hof
    have HP := Lib.hid hpu
    clear hturn hof hpu hlen
    go_wp2_with fail
    go_region
    clear v0 v1 hrun n1 n2
    have bR := (KR.out.drew.drew).off HT.out (by simpa using hRm)
    have k1 := (K9.out.drew.drew).off HT.out (by simpa using hKm)
    have c0 := bR.cell 0 _ rfl
    have c1 := bR.cell 1 _ rfl
    have c2 := bR.cell 2 _ rfl
    have c3 := bR.cell 3 _ rfl
    have c4 := bR.cell 4 _ rfl
    have c5 := bR.cell 5 _ rfl
    have d0 := k1.cell 0 _ rfl
    have d1 := k1.cell 1 _ rfl
    have d2 := k1.cell 2 _ rfl
    have d3 := k1.cell 3 _ rfl
    have d4 := k1.cell 4 _ rfl
    have d5 := k1.cell 5 _ rfl
    have f0 := k1.froz 0 (by simp)
    have f1 := k1.froz 1 (by simp)
    have f2 := k1.froz 2 (by simp)
    have f3 := k1.froz 3 (by simp)
    have f4 := k1.froz 4 (by simp)
    have f5 := k1.froz 5 (by simp)
    have K9 := Lib.hid k1
    clear bR k1 KR KC
    go_wp2_with fail
    have bz := K9.out.put6 (.int .i64 r0) (.bool r1) (.int .i64 r2) (.int .i64 r3) (.int .i64 r4) (.int .i64 r5)
    have hoz := ((((((((Off.of_below (S := [mb]) HB9.out).drew.drew.trans HT.out).setNew (p := ⟨w.heap.size + 1, 0, none⟩) (by simp) (.int .i64 r0)).setNew (p := ⟨w.heap.size + 1, 1, none⟩) (by simp) (.bool r1)).setNew (p := ⟨w.heap.size + 1, 2, none⟩) (by simp) (.int .i64 r2)).setNew (p := ⟨w.heap.size + 1, 3, none⟩) (by simp) (.int .i64 r3)).setNew (p := ⟨w.heap.size + 1, 4, none⟩) (by simp) (.int .i64 r4)).setNew (p := ⟨w.heap.size + 1, 5, none⟩) (by simp) (.int .i64 r5))
    have haz := (HA9.out.drew.drew.off HT.out hB1).put6 (b := w.heap.size + 1) hB2 (.int .i64 r0) (.bool r1) (.int .i64 r2) (.int .i64 r3) (.int .i64 r4) (.int .i64 r5)
    have hpz := hPU _ _ ⟨w.heap.size + 1, 5, none⟩ (.int .i64 r5) hKm (hPU _ _ ⟨w.heap.size + 1, 4, none⟩ (.int .i64 r4) hKm (hPU _ _ ⟨w.heap.size + 1, 3, none⟩ (.int .i64 r3) hKm (hPU _ _ ⟨w.heap.size + 1, 2, none⟩ (.int .i64 r2) hKm (hPU _ _ ⟨w.heap.size + 1, 1, none⟩ (.bool r1) hKm (hPU _ _ ⟨w.heap.size + 1, 0, none⟩ (.int .i64 r0) hKm HP.out)))))
    have e0 := bz.cell 0 _ rfl
    have e1 := bz.cell 1 _ rfl
    have e2 := bz.cell 2 _ rfl
    have e3 := bz.cell 3 _ rfl
    have e4 := bz.cell 4 _ rfl
    have e5 := bz.cell 5 _ rfl
    have how := (HW9.out.above haz).mono (B' := w.heap.size) (by omega)
    clear bz haz K9 HB9 HA9 HW9 HT HP c0 d0 f0 c1 d1 f1 c2 d2 f2 c3 d3 f3 c4 d4 f4 c5 d5 f5
    generalize World.setCell _ _ _ = WZ at e0 e1 e2 e3 e4 e5 hoz hpz how ⊢
    exact bodyPost_ret (v := .agg #[.int .i64 r0, .bool r1, .int .i64 r2, .int .i64 r3, .int .i64 r4, .int .i64 r5]) (by simp [results, Try.results35, go_sem, e0, e1, e2, e3, e4, e5]) rfl ⟨rfl, A', m', k', how, hpz, hoz⟩
  · rename_i hHd
    clear hHd
    have bR := (BlkL.new ((w3.setCell ⟨WA.heap.size, 0, none⟩ (.int .i64 t')).setCell ⟨WA.heap.size, 1, none⟩ (.slice A' m' k')) [.int .i64 r0, .bool r1, .int .i64 r2, .int .i64 r3, .int .i64 r4, .int .i64 r5] 42)
    have bC := ((HC.out.put2 (.int .i64 t') (.slice A' m' k')).alloc (.cells #[.int .i64 r0, .bool r1, .int .i64 r2, .int .i64 r3, .int .i64 r4, .int .i64 r5] 42))
    have k1 := ((L1.out.other2 (b' := WA.heap.size) (by have := HY.out.1; omega) (.int .i64 t') (.slice A' m' k')).alloc (.cells #[.int .i64 r0, .bool r1, .int .i64 r2, .int .i64 r3, .int .i64 r4, .int .i64 r5] 42))
    have kb := ((LB.out.other2 (b' := WA.heap.size) (by have := HY.out.2; omega) (.int .i64 t') (.slice A' m' k')).alloc (.cells #[.int .i64 r0, .bool r1, .int .i64 r2, .int .i64 r3, .int .i64 r4, .int .i64 r5] 42))
    have hb := ((below_put2 HB3.out (b := WA.heap.size) (by have := HB2.out.size; omega) (.int .i64 t') (.slice A' m' k')).alloc (below_put2 HB3.out (b := WA.heap.size) (by have := HB2.out.size; omega) (.int .i64 t') (.slice A' m' k')).size (.cells #[.int .i64 r0, .bool r1, .int .i64 r2, .int .i64 r3, .int .i64 r4, .int .i64 r5] 42))
    have ha := (((Above.refl ((WA.alloc (.cells #[.int .i64 0, .slice none 0 0] 83)).drew.heap.size) w3).put2 (b := WA.heap.size) (show WA.heap.size < ((WA.alloc (.cells #[.int .i64 0, .slice none 0 0] 83))).heap.size by simp only [World.size_alloc]; omega) (.int .i64 t') (.slice A' m' k')).alloc (.cells #[.int .i64 r0, .bool r1, .int .i64 r2, .int .i64 r3, .int .i64 r4, .int .i64 r5] 42))
    simp only [size_sets, List.toArray] at bR bC
    have hz1 : w.heap.size + 1 ≠ w3.heap.size := by have := HY.out.1; omega
    clear y0 y2 yb yp n0 a0 a1 a2 a3 v0 v1 p0 p1 p2 p3 xC0 gC0 xC1 gC1 lC l1C HC s31
    generalize World.alloc _ _ = WE at bR bC k1 kb hb ha ⊢
    have hown := HO.out trivial
    have hB1 : mb < ((WA.alloc (.cells #[.int .i64 0, .slice none 0 0] 83)).drew.heap.size) := Nat.lt_of_lt_of_le HM.out.1 (Nat.le_trans HB2.out.size (show WA.heap.size ≤ ((WA.alloc (.cells #[.int .i64 0, .slice none 0 0] 83))).heap.size by first | exact Nat.le_refl _ | (simp only [World.size_alloc]; omega)))
    have hB2 : w.heap.size + 1 < ((WA.alloc (.cells #[.int .i64 0, .slice none 0 0] 83)).drew.heap.size) := Nat.lt_of_lt_of_le HY.out.1 (show WA.heap.size ≤ ((WA.alloc (.cells #[.int .i64 0, .slice none 0 0] 83))).heap.size by first | exact Nat.le_refl _ | (simp only [World.size_alloc]; omega))
    generalize ((WA.alloc (.cells #[.int .i64 0, .slice none 0 0] 83)).drew.heap.size) = BZ at ha hown hB1 hB2
    have n1 := kb.cell 1 _ rfl
    have n2 := kb.cell 2 _ rfl
    have hRm : (w3.heap.size) ≠ mb := by have := HM.out.1; have := HB2.out.size; have := HB3.out.size; omega
    have hKm : w.heap.size + 1 ≠ mb := by have := HM.out.1; omega
    have hlen := HN.out WE.drew hb.drew
    have KR := Lib.hid bR
    have KC := Lib.hid bC
    have K9 := Lib.hid k1
    have HB9 := Lib.hid hb
    have HA9 := Lib.hid ha
    have HW9 := Lib.hid hown
    clear bR bC k1 kb hb ha hown HO HD L1 LB HB3 HKB KB1 K0 K1 K2 HB2
    go_wp2_with fail
    go_region
    obtain ⟨W9, hrun, hturn, hpu⟩ := HU.out WE.drew.drew (.agg #[.int .i64 t', .slice A' m' k']) HB9.out.drew.drew
    have hof := Off.of_turned hturn
    have v0 := KC.out.cell 0 _ rfl
    have v1 := KC.out.cell 1 _ rfl
    have HT := Lib.hid hof
    have HP := Lib.hid hpu
    clear hturn hof hpu hlen
    go_wp2_with fail
    go_region
    clear v0 v1 hrun n1 n2
    have bR := (KR.out.drew.drew).off HT.out (by simpa using hRm)
    have k1 := (K9.out.drew.drew).off HT.out (by simpa using hKm)
    have c0 := bR.cell 0 _ rfl
    have c1 := bR.cell 1 _ rfl
    have c2 := bR.cell 2 _ rfl
    have c3 := bR.cell 3 _ rfl
    have c4 := bR.cell 4 _ rfl
    have c5 := bR.cell 5 _ rfl
    have d0 := k1.cell 0 _ rfl
    have d1 := k1.cell 1 _ rfl
    have d2 := k1.cell 2 _ rfl
    have d3 := k1.cell 3 _ rfl
    have d4 := k1.cell 4 _ rfl
    have d5 := k1.cell 5 _ rfl
    have f0 := k1.froz 0 (by simp)
    have f1 := k1.froz 1 (by simp)
    have f2 := k1.froz 2 (by simp)
    have f3 := k1.froz 3 (by simp)
    have f4 := k1.froz 4 (by simp)
    have f5 := k1.froz 5 (by simp)
    have K9 := Lib.hid k1
    clear bR k1 KR KC
    go_wp2_with fail
    have bz := K9.out.put6 (.int .i64 r0) (.bool r1) (.int .i64 r2) (.int .i64 r3) (.int .i64 r4) (.int .i64 r5)
    have hoz := ((((((((Off.of_below (S := [mb]) HB9.out).drew.drew.trans HT.out).setNew (p := ⟨w.heap.size + 1, 0, none⟩) (by simp) (.int .i64 r0)).setNew (p := ⟨w.heap.size + 1, 1, none⟩) (by simp) (.bool r1)).setNew (p := ⟨w.heap.size + 1, 2, none⟩) (by simp) (.int .i64 r2)).setNew (p := ⟨w.heap.size + 1, 3, none⟩) (by simp) (.int .i64 r3)).setNew (p := ⟨w.heap.size + 1, 4, none⟩) (by simp) (.int .i64 r4)).setNew (p := ⟨w.heap.size + 1, 5, none⟩) (by simp) (.int .i64 r5))
    have haz := (HA9.out.drew.drew.off HT.out hB1).put6 (b := w.heap.size + 1) hB2 (.int .i64 r0) (.bool r1) (.int .i64 r2) (.int .i64 r3) (.int .i64 r4) (.int .i64 r5)
    have hpz := hPU _ _ ⟨w.heap.size + 1, 5, none⟩ (.int .i64 r5) hKm (hPU _ _ ⟨w.heap.size + 1, 4, none⟩ (.int .i64 r4) hKm (hPU _ _ ⟨w.heap.size + 1, 3, none⟩ (.int .i64 r3) hKm (hPU _ _ ⟨w.heap.size + 1, 2, none⟩ (.int .i64 r2) hKm (hPU _ _ ⟨w.heap.size + 1, 1, none⟩ (.bool r1) hKm (hPU _ _ ⟨w.heap.size + 1, 0, none⟩ (.int .i64 r0) hKm HP.out)))))
    have e0 := bz.cell 0 _ rfl
    have e1 := bz.cell 1 _ rfl
    have e2 := bz.cell 2 _ rfl
    have e3 := bz.cell 3 _ rfl
    have e4 := bz.cell 4 _ rfl
    have e5 := bz.cell 5 _ rfl
    have how := (HW9.out.above haz).mono (B' := w.heap.size) (by omega)
    clear bz haz K9 HB9 HA9 HW9 HT HP c0 d0 f0 c1 d1 f1 c2 d2 f2 c3 d3 f3 c4 d4 f4 c5 d5 f5
    generalize World.setCell _ _ _ = WZ at e0 e1 e2 e3 e4 e5 hoz hpz how ⊢
    exact bodyPost_ret (v := .agg #[.int .i64 r0, .bool r1, .int .i64 r2, .int .i64 r3, .int .i64 r4, .int .i64 r5]) (by simp [results, Try.results35, go_sem, e0, e1, e2, e3, e4, e5]) rfl ⟨rfl, A', m', k', how, hpz, hoz⟩
  · rename_i hHd
    clear hHd
    have bR := ((HR.out.put6 (.int .i64 r0) (.bool r1) (.int .i64 r2) (.int .i64 r3) (.int .i64 r4) (.int .i64 r5)).other2 (b' := WA.heap.size) (by omega) (.int .i64 t') (.slice A' m' k'))
    have bC := ((HC.out.other6 (b' := WA.heap.size + 1) (by omega) (.int .i64 r0) (.bool r1) (.int .i64 r2) (.int .i64 r3) (.int .i64 r4) (.int .i64 r5)).put2 (.int .i64 t') (.slice A' m' k'))
    have k1 := ((L1.out.other6 (b' := WA.heap.size + 1) (by have := HY.out.1; omega) (.int .i64 r0) (.bool r1) (.int .i64 r2) (.int .i64 r3) (.int .i64 r4) (.int .i64 r5)).other2 (b' := WA.heap.size) (by have := HY.out.1; omega) (.int .i64 t') (.slice A' m' k'))
    have kb := ((LB.out.other6 (b' := WA.heap.size + 1) (by have := HY.out.2; omega) (.int .i64 r0) (.bool r1) (.int .i64 r2) (.int .i64 r3) (.int .i64 r4) (.int .i64 r5)).other2 (b' := WA.heap.size) (by have := HY.out.2; omega) (.int .i64 t') (.slice A' m' k'))
    have hb := (below_put2 (below_put6 HB3.out (b := WA.heap.size + 1) (by have := HB2.out.size; omega) (.int .i64 r0) (.bool r1) (.int .i64 r2) (.int .i64 r3) (.int .i64 r4) (.int .i64 r5)) (b := WA.heap.size) (by have := HB2.out.size; omega) (.int .i64 t') (.slice A' m' k'))
    have ha := (((Above.refl (((WA.alloc (.cells #[.int .i64 0, .slice none 0 0] 83)).alloc (.cells #[.int .i64 0, .bool false, .int .i64 0, .int .i64 0, .int .i64 0, .int .i64 0] 42)).drew.heap.size) w3).put6 (b := WA.heap.size + 1) (show WA.heap.size + 1 < (((WA.alloc (.cells #[.int .i64 0, .slice none 0 0] 83)).alloc (.cells #[.int .i64 0, .bool false, .int .i64 0, .int .i64 0, .int .i64 0, .int .i64 0] 42))).heap.size by simp only [World.size_alloc]; omega) (.int .i64 r0) (.bool r1) (.int .i64 r2) (.int .i64 r3) (.int .i64 r4) (.int .i64 r5)).put2 (b := WA.heap.size) (show WA.heap.size < (((WA.alloc (.cells #[.int .i64 0, .slice none 0 0] 83)).alloc (.cells #[.int .i64 0, .bool false, .int .i64 0, .int .i64 0, .int .i64 0, .int .i64 0] 42))).heap.size by simp only [World.size_alloc]; omega) (.int .i64 t') (.slice A' m' k'))
    have hz1 : w.heap.size + 1 ≠ WA.heap.size + 1 := by have := HY.out.1; omega
    clear y0 y2 yb yp n0 a0 a1 a2 a3 v0 v1 p0 p1 p2 p3 xC0 gC0 xC1 gC1 xR0 gR0 xR1 gR1 xR2 gR2 xR3 gR3 xR4 gR4 xR5 gR5 lC l1C HC lR l1R HR s31
    generalize World.setCell _ _ _ = WE at bR bC k1 kb hb ha ⊢
    have hown := HO.out trivial
    have hB1 : mb < (((WA.alloc (.cells #[.int .i64 0, .slice none 0 0] 83)).alloc (.cells #[.int .i64 0, .bool false, .int .i64 0, .int .i64 0, .int .i64 0, .int .i64 0] 42)).drew.heap.size) := Nat.lt_of_lt_of_le HM.out.1 (Nat.le_trans HB2.out.size (show WA.heap.size ≤ (((WA.alloc (.cells #[.int .i64 0, .slice none 0 0] 83)).alloc (.cells #[.int .i64 0, .bool false, .int .i64 0, .int .i64 0, .int .i64 0, .int .i64 0] 42))).heap.size by first | exact Nat.le_refl _ | (simp only [World.size_alloc]; omega)))
    have hB2 : w.heap.size + 1 < (((WA.alloc (.cells #[.int .i64 0, .slice none 0 0] 83)).alloc (.cells #[.int .i64 0, .bool false, .int .i64 0, .int .i64 0, .int .i64 0, .int .i64 0] 42)).drew.heap.size) := Nat.lt_of_lt_of_le HY.out.1 (show WA.heap.size ≤ (((WA.alloc (.cells #[.int .i64 0, .slice none 0 0] 83)).alloc (.cells #[.int .i64 0, .bool false, .int .i64 0, .int .i64 0, .int .i64 0, .int .i64 0] 42))).heap.size by first | exact Nat.le_refl _ | (simp only [World.size_alloc]; omega))
    generalize (((WA.alloc (.cells #[.int .i64 0, .slice none 0 0] 83)).alloc (.cells #[.int .i64 0, .bool false, .int .i64 0, .int .i64 0, .int .i64 0, .int .i64 0] 42)).drew.heap.size) = BZ at ha hown hB1 hB2
    have n1 := kb.cell 1 _ rfl
    have n2 := kb.cell 2 _ rfl
    have hRm : (WA.heap.size + 1) ≠ mb := by have := HM.out.1; have := HB2.out.size; have := HB3.out.size; omega
    have hKm : w.heap.size + 1 ≠ mb := by have := HM.out.1; omega
    have hlen := HN.out WE.drew hb.drew
    have KR := Lib.hid bR
    have KC := Lib.hid bC
    have K9 := Lib.hid k1
    have HB9 := Lib.hid hb
    have HA9 := Lib.hid ha
    have HW9 := Lib.hid hown
    clear bR bC k1 kb hb ha hown HO HD L1 LB HB3 HKB KB1 K0 K1 K2 HB2
    go_wp2_with fail
    go_region
    obtain ⟨W9, hrun, hturn, hpu⟩ := HU.out WE.drew.drew (.agg #[.int .i64 t', .slice A' m' k']) HB9.out.drew.drew
    have hof := Off.of_turned hturn
    have v0 := KC.out.cell 0 _ rfl
    have v1 := KC.out.cell 1 _ rfl
    have HT := Lib.hid hof
    have HP := Lib.hid hpu
    clear hturn hof hpu hlen
    go_wp2_with fail
    go_region
    clear v0 v1 hrun n1 n2
    have bR := (KR.out.drew.drew).off HT.out (by simpa using hRm)
    have k1 := (K9.out.drew.drew).off HT.out (by simpa using hKm)
    have c0 := bR.cell 0 _ rfl
    have c1 := bR.cell 1 _ rfl
    have c2 := bR.cell 2 _ rfl
    have c3 := bR.cell 3 _ rfl
    have c4 := bR.cell 4 _ rfl
    have c5 := bR.cell 5 _ rfl
    have d0 := k1.cell 0 _ rfl
    have d1 := k1.cell 1 _ rfl
    have d2 := k1.cell 2 _ rfl
    have d3 := k1.cell 3 _ rfl
    have d4 := k1.cell 4 _ rfl
    have d5 := k1.cell 5 _ rfl
    have f0 := k1.froz 0 (by simp)
    have f1 := k1.froz 1 (by simp)
    have f2 := k1.froz 2 (by simp)
    have f3 := k1.froz 3 (by simp)
    have f4 := k1.froz 4 (by simp)
    have f5 := k1.froz 5 (by simp)
    have K9 := Lib.hid k1
    clear bR k1 KR KC
    go_wp2_with fail
    have bz := K9.out.put6 (.int .i64 r0) (.bool r1) (.int .i64 r2) (.int .i64 r3) (.int .i64 r4) (.int .i64 r5)
    have hoz := ((((((((Off.of_below (S := [mb]) HB9.out).drew.drew.trans HT.out).setNew (p := ⟨w.heap.size + 1, 0, none⟩) (by simp) (.int .i64 r0)).setNew (p := ⟨w.heap.size + 1, 1, none⟩) (by simp) (.bool r1)).setNew (p := ⟨w.heap.size + 1, 2, none⟩) (by simp) (.int .i64 r2)).setNew (p := ⟨w.heap.size + 1, 3, none⟩) (by simp) (.int .i64 r3)).setNew (p := ⟨w.heap.size + 1, 4, none⟩) (by simp) (.int .i64 r4)).setNew (p := ⟨w.heap.size + 1, 5, none⟩) (by simp) (.int .i64 r5))
    have haz := (HA9.out.drew.drew.off HT.out hB1).put6 (b := w.heap.size + 1) hB2 (.int .i64 r0) (.bool r1) (.int .i64 r2) (.int .i64 r3) (.int .i64 r4) (.int .i64 r5)
    have hpz := hPU _ _ ⟨w.heap.size + 1, 5, none⟩ (.int .i64 r5) hKm (hPU _ _ ⟨w.heap.size + 1, 4, none⟩ (.int .i64 r4) hKm (hPU _ _ ⟨w.heap.size + 1, 3, none⟩ (.int .i64 r3) hKm (hPU _ _ ⟨w.heap.size + 1, 2, none⟩ (.int .i64 r2) hKm (hPU _ _ ⟨w.heap.size + 1, 1, none⟩ (.bool r1) hKm (hPU _ _ ⟨w.heap.size + 1, 0, none⟩ (.int .i64 r0) hKm HP.out)))))
    have e0 := bz.cell 0 _ rfl
    have e1 := bz.cell 1 _ rfl
    have e2 := bz.cell 2 _ rfl
    have e3 := bz.cell 3 _ rfl
    have e4 := bz.cell 4 _ rfl
    have e5 := bz.cell 5 _ rfl
    have how := (HW9.out.above haz).mono (B' := w.heap.size) (by omega)
    clear bz haz K9 HB9 HA9 HW9 HT HP c0 d0 f0 c1 d1 f1 c2 d2 f2 c3 d3 f3 c4 d4 f4 c5 d5 f5
    generalize World.setCell _ _ _ = WZ at e0 e1 e2 e3 e4 e5 hoz hpz how ⊢
    exact bodyPost_ret (v := .agg #[.int .i64 r0, .bool r1, .int .i64 r2, .int .i64 r3, .int .i64 r4, .int .i64 r5]) (by simp [results, Try.results35, go_sem, e0, e1, e2, e3, e4, e5]) rfl ⟨rfl, A', m', k', how, hpz, hoz⟩
end Go.Proofs.Ytnkecjjfbllgdaa
