/- The law ShardNil: its walk. -/
import Derived.Test.YtpjgpiiibgogeaaNiA
import Derived.Outline
namespace Go.Proofs.Ytpjgpiiibgogeaa
open Go.RowKit
set_option maxRecDepth 100000
set_option linter.unusedVariables false

set_option maxHeartbeats 12800000 in
theorem shardNil_walk (who : Int) (op : Nat) (A : Option Addr) (n c : Nat) (zs : List Nat) (x : Int) (w : World) (h : Arg w w.heap.size A n c zs) (hc : c ≤ 140737488351232) :
    Calls Try.prog 9 #[.agg #[.int .i64 who, .int .u8 (op : Int), .slice A n c, .int .i64 x]] w (ValEnd w (.bool true)) := by
  have hle := h.le
  have HAG := Lib.hid h
  have hb1 : Below w.heap.size w (w.alloc (.cells #[.int .i64 who, .int .u8 (op : Int), .slice A n c, .int .i64 x] 72)) := (Below.refl _ _).alloc (Nat.le_refl _) _
  have kp := BlkL.new w [.int .i64 who, .int .u8 (op : Int), .slice A n c, .int .i64 x] 72
  have HS := Lib.hid (step_nilS (w.alloc (.cells #[.int .i64 who, .int .u8 (op : Int), .slice A n c, .int .i64 x] 72)) who)
  have HDS := Lib.hid (fun W => docStep_nil W who)
  have HST := Lib.hid (fun W A' c' => start_nilS W who op A' n c' x)
  have HDT := Lib.hid (fun W => docStart_nil W who op A n c x)
  have HB1 := Lib.hid hb1
  have KP := Lib.hid kp
  clear h hb1 kp
  generalize stepNilV who = sv at *
  generalize hnv : ((nilV who op n x : Nat) : Int) = nv at HST HDT
  have heq := eqR
  go_enter Try.func9, Try.ntmps9
  go_wp2_with fail
  with_reducible refine HS.out.mono ?_
  rintro e w1 ⟨rfl, hb2⟩
  have kp1 := (KP.out.below hb2).alloc (.cells #[.bool false, .int .i64 0, .int .i64 0] 79)
  have kr1 := BlkL.new w1 [.bool false, .int .i64 0, .int .i64 0] 79
  have hbr : Below w.heap.size w (w1.alloc (.cells #[.bool false, .int .i64 0, .int .i64 0] 79)) := (HB1.out.trans (hb2.mono HB1.out.size)).alloc (by have := HB1.out.size; have := hb2.size; omega) _
  have p0 := kp1.cell 0 _ rfl
  have pl := kp1.lt
  have HDS1 := Lib.hid (HDS.out (w1.alloc (.cells #[.bool false, .int .i64 0, .int .i64 0] 79)))
  have KP1 := Lib.hid (And.intro kp1 kr1)
  have HBR := Lib.hid hbr
  clear kp1 kr1 hbr hb2 HS HDS KP HB1
  go_wp2_with fail
  with_reducible refine HDS1.out.mono ?_
  rintro e w2 ⟨rfl, hb3⟩
  have kp2 := (KP1.out.1.below hb3).alloc (.cells #[.bool false, .int .i64 0, .int .i64 0] 83)
  have kr2 := (KP1.out.2.below hb3).alloc (.cells #[.bool false, .int .i64 0, .int .i64 0] 83)
  have hb4 : Below w.heap.size w (w2.alloc (.cells #[.bool false, .int .i64 0, .int .i64 0] 83)) := (HBR.out.trans (hb3.mono HBR.out.size)).alloc (by have := HBR.out.size; have := hb3.size; omega) _
  clear p0 pl hb3 HDS1 KP1 HBR
  go_wp2_with fail
  generalize w2.alloc (.cells #[.bool false, .int .i64 0, .int .i64 0] 83) = W0 at *
  have p0 := kp2.cell 0 _ rfl
  have p1 := kp2.cell 1 _ rfl
  have p2 := kp2.cell 2 _ rfl
  have p3 := kp2.cell 3 _ rfl
  have r0 := kr2.cell 0 _ rfl
  have r1 := kr2.cell 1 _ rfl
  have r2 := kr2.cell 2 _ rfl
  have KK := Lib.hid (And.intro kp2 kr2)
  have HAW : Hid (∀ W, Below W0.heap.size W0 W → Calls Try.prog 32 #[] W fun e w' => e = .returned (.bool true) ∧ Below W0.heap.size W0 w') := Lib.hid (fun W hb => (awake14_any W).mono fun e w' ⟨h1, h2⟩ => ⟨h1, hb.trans (h2.mono hb.size)⟩)
  have HTW : Hid (∀ W, Below W0.heap.size W0 W → Calls Try.prog 48 #[.slice A n c] W fun e w' => ∃ A' c', e = .returned (.slice A' n c') ∧ Below W0.heap.size W0 w') := Lib.hid (fun W hb => (twin_any W w.heap.size A n c zs (HAG.out.below (hb4.trans (hb.mono hb4.size))) (Nat.le_trans hb4.size hb.size) (by omega)).mono fun e w' ⟨A', c', h1, _, h2⟩ => ⟨A', c', h1, hb.trans (h2.mono hb.size)⟩)
  have HKF : Hid (∀ W, Below W0.heap.size W0 W → (W.cell? ⟨w.heap.size, 0, none⟩ = some (.int .i64 who) ∧ W.cell? ⟨w.heap.size, 1, none⟩ = some (.int .u8 (op : Int)) ∧ W.cell? ⟨w.heap.size, 2, none⟩ = some (.slice A n c) ∧ W.cell? ⟨w.heap.size, 3, none⟩ = some (.int .i64 x) ∧ W.cell? ⟨w1.heap.size, 0, none⟩ = some (.bool false) ∧ W.cell? ⟨w1.heap.size, 1, none⟩ = some (.int .i64 0) ∧ W.cell? ⟨w1.heap.size, 2, none⟩ = some (.int .i64 0))) := Lib.hid (fun W hb => by
    have k1 := KK.out.1.below (hb.mono (Nat.le_refl _))
    have k2 := KK.out.2.below (hb.mono (Nat.le_refl _))
    exact ⟨k1.cell 0 _ rfl, k1.cell 1 _ rfl, k1.cell 2 _ rfl, k1.cell 3 _ rfl, k2.cell 0 _ rfl, k2.cell 1 _ rfl, k2.cell 2 _ rfl⟩)
  have HB4 := Lib.hid hb4
  have hd0 : Below W0.heap.size W0 W0.drew := (Below.refl _ _).drew
  have HST2 : Hid (∀ W A' c', Below W0.heap.size W0 W → Calls Try.prog 36 #[.pointer none, .int .i64 who, .int .u8 (op : Int), .slice A' n c', .int .i64 x] W fun e w' => e = .returned (.int .i64 nv) ∧ Below W0.heap.size W0 w') := Lib.hid (fun W A' c' hb => (HST.out W A' c').mono fun e w' ⟨h1, h2⟩ => ⟨h1, h2 ▸ hb⟩)
  have HDT2 : Hid (∀ W, Below W0.heap.size W0 W → Calls Try.prog 37 #[.pointer none, .int .i64 who, .int .u8 (op : Int), .slice A n c, .int .i64 x] W fun e w' => e = .returned (.int .i64 nv) ∧ Below W0.heap.size W0 w') := Lib.hid (fun W hb => (HDT.out W).mono fun e w' ⟨h1, h2⟩ => ⟨h1, h2 ▸ hb⟩)
  have HPN : Hid (∀ W, Below W0.heap.size W0 W → Calls Try.prog 43 #[.pointer none, .int .i64 who] W fun e w' => e = .returned (.bool false) ∧ Below W0.heap.size W0 w') := Lib.hid (fun W hb => (sPend_nil W who).mono fun e w' ⟨h1, h2⟩ => ⟨h1, h2 ▸ hb⟩)
  have HEN : Hid (∀ W, Below W0.heap.size W0 W → Calls Try.prog 42 #[.pointer none] W fun e w' => e = .returned (.slice none 0 0) ∧ Below W0.heap.size W0 w') := Lib.hid (fun W hb => (entries_nil W).mono fun e w' ⟨h1, h2⟩ => ⟨h1, h2 ▸ hb⟩)
  have HVN : Hid (∀ W, Below W0.heap.size W0 W → Calls Try.prog 45 #[.pointer none] W fun e w' => e = .returned (.int .i64 0) ∧ Below W0.heap.size W0 w') := Lib.hid (fun W hb => (sVersion_nil W).mono fun e w' ⟨h1, h2⟩ => ⟨h1, h2 ▸ hb⟩)
  clear kp2 kr2 hb4 HST HDT hnv
  go_region_held3 (fun w' => w'.cell? ⟨w.heap.size, 0, none⟩ = some (.int .i64 who) ∧ w'.cell? ⟨w.heap.size, 1, none⟩ = some (.int .u8 (op : Int)) ∧ w'.cell? ⟨w.heap.size, 2, none⟩ = some (.slice A n c) ∧ w'.cell? ⟨w.heap.size, 3, none⟩ = some (.int .i64 x) ∧ w'.cell? ⟨w1.heap.size, 0, none⟩ = some (.bool false) ∧ w'.cell? ⟨w1.heap.size, 1, none⟩ = some (.int .i64 0) ∧ w'.cell? ⟨w1.heap.size, 2, none⟩ = some (.int .i64 0))
    (first | (with_reducible exact HKF.out _ (by with_reducible assumption)) | exact HKF.out _ hd0)
    (first
    | ((with_reducible refine (HAW.out _ (by with_reducible assumption)).mono ?_); rintro e w5 ⟨rfl, hb5⟩)
    | ((with_reducible refine (HTW.out _ (by with_reducible assumption)).mono ?_); rintro e w5 ⟨A', c', rfl, hb5⟩)
    | ((with_reducible refine (HST2.out _ _ _ (by with_reducible assumption)).mono ?_); rintro e w5 ⟨rfl, hb5⟩)
    | ((with_reducible refine (HDT2.out _ (by with_reducible assumption)).mono ?_); rintro e w5 ⟨rfl, hb5⟩)
    | ((with_reducible refine (HPN.out _ (by with_reducible assumption)).mono ?_); rintro e w5 ⟨rfl, hb5⟩)
    | ((with_reducible refine (HEN.out _ (by with_reducible assumption)).mono ?_); rintro e w5 ⟨rfl, hb5⟩)
    | ((with_reducible refine (HVN.out _ (by with_reducible assumption)).mono ?_); rintro e w5 ⟨rfl, hb5⟩))
  all_goals
    go_wp2
    go_ret
    exact ⟨rfl, HB4.out.trans (Below.mono (by assumption) HB4.out.size)⟩
end Go.Proofs.Ytpjgpiiibgogeaa
