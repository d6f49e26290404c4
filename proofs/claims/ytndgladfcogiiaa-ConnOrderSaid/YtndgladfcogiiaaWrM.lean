/- Contract: readCall whole. -/
import Derived.Test.YtndgladfcogiiaaWrL
import Derived.BigQuiet
namespace Go.Proofs.Ytndgladfcogiiaa
open Go.RowKit
set_option maxRecDepth 100000
set_option linter.unusedVariables false

set_option maxHeartbeats 1600000 in
theorem rc_else (w : World) (B sb : Nat) (A : Option Addr) (n c : Nat) (zs : List Nat) (h : RdS w B sb A n c zs) (o : Nat) (ho : zs.getD 0 0 = o) (hn1 : 1 ≤ n) (h1 : o ≠ 1) (h2 : o ≠ 2) (h3 : o ≠ 3) (h4 : o ≠ 4) : Calls Try.prog 98 #[.pointer (some ⟨sb, 0, none⟩)] w (CallE w sb ⟨o, 0, 0, []⟩) := by
  have hob : o < 256 := by have := h.arg.lt 0; omega
  have e0 : IntKind.u8.wrap (o : Int) = (o : Int) := IntWalk.u8_in _ (by omega)
  have HN : Hid (Calls Try.prog 123 #[.pointer (some ⟨sb, 0, none⟩), .int .i64 1] (zW w) (NumS (zW w) B sb 1 n o zs)) := Lib.hid (num1 (zW w) B sb o A n c zs (h.below ((Below.refl _ _).alloc (Nat.le_refl _) _)) ho (by omega))
  have HLT := Lib.hid h.blk.lt
  have d1 : ((o : Int) == 1) = false := by simp; omega
  have d2 : ((o : Int) == 2) = false := by simp; omega
  have d3 : ((o : Int) == 3) = false := by simp; omega
  have d4 : ((o : Int) == 4) = false := by simp; omega
  clear h ho
  go_enter Try.func98, Try.ntmps98
  go_wp2_with fail
  with_reducible refine (HN.out).mono ?_
  rintro e w1 ⟨A1, c1, rfl, hs1, hf1⟩
  have HI0 : RcI w (w1.alloc (.cells #[.int .u8 (o : Int), .int .i64 0, .slice none 0 0, .int .i64 0] 71)) B sb w1.heap.size o (n - 1) A1 c1 (zs.drop 1) := RcI.make o HLT.out hs1 hf1
  have HI := Lib.hid HI0
  clear hs1 hf1 HN
  have k0 := HI0.k.cell 0 _ rfl
  have k1 := HI0.k.cell 1 _ rfl
  have k2 := HI0.k.cell 2 _ rfl
  have k3 := HI0.k.cell 3 _ rfl
  have hne : w1.heap.size ≠ sb := by have := HI0.lt; omega
  have hBc : B ≤ w1.heap.size := by have := HI0.lt; have := HI0.s.le; omega
  have lk := HI0.k.lt
  clear HI0
  have R2 := Lib.hid HI.out.r
  have lr := HI.out.r.lt
  have v0 := R2.out.cell 0 _ rfl
  have g0 := R2.out.froz 0 (by simp)
  have v1 := R2.out.cell 1 _ rfl
  have g1 := R2.out.froz 1 (by simp)
  have v2 := R2.out.cell 2 _ rfl
  have g2 := R2.out.froz 2 (by simp)
  have v3 := R2.out.cell 3 _ rfl
  have g3 := R2.out.froz 3 (by simp)
  go_wp2
  exact rc_fin _ ⟨o, 0, 0, []⟩ rfl rfl _ R2.out rfl (OwnV.nil _ _) (by simp [bkV]) HI.out.f
def rc_x3 (zs : List Nat) : ClV := ⟨3, ((zs.drop 1).getD 2 0 : Nat), (dSer (zs.drop 1) : Nat), dKey (zs.drop 1)⟩
set_option maxHeartbeats 1600000 in
theorem rc_3_ok (w : World) (B sb : Nat) (A : Option Addr) (n c : Nat) (zs : List Nat) (h : RdS w B sb A n c zs) (hok : decOk (zs.drop 1)) (ho : zs.getD 0 0 = 3) (hn1 : 1 ≤ n) : Calls Try.prog 98 #[.pointer (some ⟨sb, 0, none⟩)] w (CallE w sb (rc_x3 zs)) := by
  have HR : Hid (rc_x3 zs = ⟨3, ((zs.drop 1).getD 2 0 : Nat), (dSer (zs.drop 1) : Nat), dKey (zs.drop 1)⟩) := Lib.hid rfl
  have HBB := Lib.hid h.arg.byte
  have hob : 3 < 256 := by have := h.arg.lt 0; omega
  have e0 : IntKind.u8.wrap (3 : Int) = (3 : Int) := IntWalk.u8_in _ (by omega)
  have HN : Hid (Calls Try.prog 123 #[.pointer (some ⟨sb, 0, none⟩), .int .i64 1] (zW w) (NumS (zW w) B sb 1 n 3 zs)) := Lib.hid (num1 (zW w) B sb 3 A n c zs (h.below ((Below.refl _ _).alloc (Nat.le_refl _) _)) ho (by omega))
  have HLT := Lib.hid h.blk.lt
  clear h ho
  go_enter Try.func98, Try.ntmps98
  go_wp2_with fail
  with_reducible refine (HN.out).mono ?_
  rintro e w1 ⟨A1, c1, rfl, hs1, hf1⟩
  have HI0 : RcI w (w1.alloc (.cells #[.int .u8 3, .int .i64 0, .slice none 0 0, .int .i64 0] 71)) B sb w1.heap.size 3 (n - 1) A1 c1 (zs.drop 1) := RcI.make 3 HLT.out hs1 hf1
  have HI := Lib.hid HI0
  clear hs1 hf1 HN
  have k0 := HI0.k.cell 0 _ rfl
  have k1 := HI0.k.cell 1 _ rfl
  have k2 := HI0.k.cell 2 _ rfl
  have k3 := HI0.k.cell 3 _ rfl
  have hne : w1.heap.size ≠ sb := by have := HI0.lt; omega
  have hBc : B ≤ w1.heap.size := by have := HI0.lt; have := HI0.s.le; omega
  have lk := HI0.k.lt
  clear HI0
  have hRS := prest_any _ sb A1 (n - 1) c1 HI.out.s.blk
  have HRS := Lib.hid hRS
  have hB2 : B ≤ (w1.alloc (.cells #[.int .u8 3, .int .i64 0, .slice none 0 0, .int .i64 0] 71)).heap.size := by have := HI.out.top; omega
  obtain ⟨P, hP⟩ : ∃ r, (zs.drop 1).getD 2 0 = r := ⟨_, rfl⟩
  obtain ⟨S, hS⟩ : ∃ r, dSer (zs.drop 1) = r := ⟨_, rfl⟩
  obtain ⟨L, hL⟩ : ∃ r, dKey (zs.drop 1) = r := ⟨_, rfl⟩
  obtain ⟨m, hm⟩ : ∃ r, (zs.drop 1).getD 3 0 = r := ⟨_, rfl⟩
  have HKL : Hid (L.length = m) := by
    refine Lib.hid ?_
    rw [← hL, ← hm]
    have := hok.1
    simp only [dKey, List.length_take, List.length_drop] at this ⊢
    omega
  have HD : Hid (Calls Try.prog 25 #[.slice A1 (n - 1) c1] (w1.alloc (.cells #[.int .u8 3, .int .i64 0, .slice none 0 0, .int .i64 0] 71)) (TokEnd (w1.alloc (.cells #[.int .u8 3, .int .i64 0, .slice none 0 0, .int .i64 0] 71)) P S L m)) := by
    have := decode_good _ B A1 (n - 1) c1 _ HI.out.s.arg hB2 hok
    rw [hP, hS, hL, hm] at this
    exact Lib.hid this
  rw [hP, hS, hL] at HR
  clear hP hS hL hm hok
  go_wp2_with fail
  with_reducible refine (HRS.out).mono ?_
  rintro e w' ⟨rfl, rfl⟩
  go_wp2_with fail
  with_reducible refine (HD.out).mono ?_
  rintro e w3 ⟨KA, kc, rfl, ho3, hb3⟩
  have hlt := HI.out.lt
  have htop := HI.out.top
  have hz3 := hb3.size
  have k3' : BlkL w3 w1.heap.size [.int .u8 3, .int .i64 0, .slice none 0 0, .int .i64 0] := HI.out.k.below hb3
  have r3' := HI.out.r.below hb3
  have hk4 := k3'.alloc (.cells #[.int .i64 (P : Int), .slice KA m kc, .int .i64 (S : Int)] 24)
  have hr4 := r3'.alloc (.cells #[.int .i64 (P : Int), .slice KA m kc, .int .i64 (S : Int)] 24)
  have ht4 : BlkL (w3.alloc (.cells #[.int .i64 (P : Int), .slice KA m kc, .int .i64 (S : Int)] 24)) w3.heap.size [.int .i64 (P : Int), .slice KA m kc, .int .i64 (S : Int)] := BlkL.new w3 _ _
  have f4 : Off [sb] w (w3.alloc (.cells #[.int .i64 (P : Int), .slice KA m kc, .int .i64 (S : Int)] 24)) := (HI.out.f.trans (Off.of_below hb3)).alloc _
  have o4 : OwnV (w3.alloc (.cells #[.int .i64 (P : Int), .slice KA m kc, .int .i64 (S : Int)] 24)) (w1.heap.size + 1) KA m kc (L.map V8) := by
    have := ho3.ownV
    rw [htop] at this
    exact this.below ((Below.refl _ _).alloc (Nat.le_refl _) _)
  have O4 := Lib.hid o4
  clear o4 ho3
  have hlt1 : w1.heap.size < w3.heap.size := by omega
  have t0 := hk4.cell 0 _ rfl
  have u0 := hk4.froz 0 (by simp)
  have t1 := hk4.cell 1 _ rfl
  have u1 := hk4.froz 1 (by simp)
  have t2 := hk4.cell 2 _ rfl
  have u2 := hk4.froz 2 (by simp)
  have t3 := hk4.cell 3 _ rfl
  have u3 := hk4.froz 3 (by simp)
  have q0 := ht4.cell 0 _ rfl
  have q1 := ht4.cell 1 _ rfl
  have q2 := ht4.cell 2 _ rfl
  have l4 := hk4.lt
  have l5 := ht4.lt
  have l6 := hr4.lt
  have K4 := Lib.hid hk4
  have R4 := Lib.hid hr4
  have F4 := Lib.hid f4
  clear k0 k1 k2 k3 k3' r3' hk4 hr4 ht4 f4 hb3
  go_wp2
  generalize w3.alloc (.cells #[.int .i64 (P : Int), .slice KA m kc, .int .i64 (S : Int)] 24) = w4 at *
  go_region
  have f5 : Off [w1.heap.size] w4 ((((w4.setCell ⟨w1.heap.size, 1, none⟩ (.int .i64 (P : Int))).setCell ⟨w1.heap.size, 2, none⟩ (.slice KA m kc)).setCell ⟨w1.heap.size, 3, none⟩ (.int .i64 (S : Int))).drew) := ((((Off.refl _ _).setCell (p := ⟨w1.heap.size, 1, none⟩) (by simp) _).setCell (p := ⟨w1.heap.size, 2, none⟩) (by simp) _).setCell (p := ⟨w1.heap.size, 3, none⟩) (by simp) _).drew
  have k5 := (((K4.out.set 1 (.int .i64 (P : Int)) (by simp)).set 2 (.slice KA m kc) (by simp)).set 3 (.int .i64 (S : Int)) (by simp)).drew
  have r5 := R4.out.off f5 (by simp; omega)
  have o5 := O4.out.off f5 (fun y hy => by have := (O4.out.lt y hy).1; simp; omega)
  have f6 := F4.out.new f5 (fun y hy => by simp at hy; simp; omega)
  have R5 := Lib.hid r5
  have O5 := Lib.hid (o5.mono (B' := w.heap.size) (by omega))
  have F5 := Lib.hid f6
  have HNK : Hid (w.heap.size ∉ bkV KA) := Lib.hid (fun hy => by have := (O4.out.lt _ hy).1; omega)
  have a0 := k5.cell 0 _ rfl
  have d10 := r5.cell 0 _ rfl
  have e0 := r5.froz 0 (by simp)
  have a1 := k5.cell 1 _ rfl
  have d11 := r5.cell 1 _ rfl
  have e1 := r5.froz 1 (by simp)
  have a2 := k5.cell 2 _ rfl
  have d12 := r5.cell 2 _ rfl
  have e2 := r5.froz 2 (by simp)
  have a3 := k5.cell 3 _ rfl
  have d13 := r5.cell 3 _ rfl
  have e3 := r5.froz 3 (by simp)
  have l7 := k5.lt
  have l8 := r5.lt
  clear f5 k5 r5 o5 f6 t0 t1 t2 t3 u0 u1 u2 u3 q0 q1 q2
  generalize ((((w4.setCell ⟨w1.heap.size, 1, none⟩ (.int .i64 (P : Int))).setCell ⟨w1.heap.size, 2, none⟩ (.slice KA m kc)).setCell ⟨w1.heap.size, 3, none⟩ (.int .i64 (S : Int))).drew) = w5 at *
  go_wp2
  exact rc_fin _ ⟨3, (P : Nat), (S : Nat), L⟩ HR.out HKL.out _ R5.out rfl O5.out HNK.out F5.out
set_option maxHeartbeats 1600000 in
theorem rc_3_no (w : World) (B sb : Nat) (A : Option Addr) (n c : Nat) (zs : List Nat) (h : RdS w B sb A n c zs) (hok : ¬ decOk (zs.drop 1)) (ho : zs.getD 0 0 = 3) (hn1 : 1 ≤ n) (hm : n ≤ 4096) : Calls Try.prog 98 #[.pointer (some ⟨sb, 0, none⟩)] w (CallE w sb ⟨3, 0, 0, []⟩) := by
  have HKL : Hid (([] : List Nat).length = 0) := Lib.hid rfl
  have HBB := Lib.hid h.arg.byte
  have hob : 3 < 256 := by have := h.arg.lt 0; omega
  have e0 : IntKind.u8.wrap (3 : Int) = (3 : Int) := IntWalk.u8_in _ (by omega)
  have HN : Hid (Calls Try.prog 123 #[.pointer (some ⟨sb, 0, none⟩), .int .i64 1] (zW w) (NumS (zW w) B sb 1 n 3 zs)) := Lib.hid (num1 (zW w) B sb 3 A n c zs (h.below ((Below.refl _ _).alloc (Nat.le_refl _) _)) ho (by omega))
  have HLT := Lib.hid h.blk.lt
  clear h ho
  go_enter Try.func98, Try.ntmps98
  go_wp2_with fail
  with_reducible refine (HN.out).mono ?_
  rintro e w1 ⟨A1, c1, rfl, hs1, hf1⟩
  have HI0 : RcI w (w1.alloc (.cells #[.int .u8 3, .int .i64 0, .slice none 0 0, .int .i64 0] 71)) B sb w1.heap.size 3 (n - 1) A1 c1 (zs.drop 1) := RcI.make 3 HLT.out hs1 hf1
  have HI := Lib.hid HI0
  clear hs1 hf1 HN
  have k0 := HI0.k.cell 0 _ rfl
  have k1 := HI0.k.cell 1 _ rfl
  have k2 := HI0.k.cell 2 _ rfl
  have k3 := HI0.k.cell 3 _ rfl
  have hne : w1.heap.size ≠ sb := by have := HI0.lt; omega
  have hBc : B ≤ w1.heap.size := by have := HI0.lt; have := HI0.s.le; omega
  have lk := HI0.k.lt
  clear HI0
  have hRS := prest_any _ sb A1 (n - 1) c1 HI.out.s.blk
  have HRS := Lib.hid hRS
  have hB2 : B ≤ (w1.alloc (.cells #[.int .u8 3, .int .i64 0, .slice none 0 0, .int .i64 0] 71)).heap.size := by have := HI.out.top; omega
  have HD : Hid (Calls Try.prog 25 #[.slice A1 (n - 1) c1] (w1.alloc (.cells #[.int .u8 3, .int .i64 0, .slice none 0 0, .int .i64 0] 71)) (ValEnd (w1.alloc (.cells #[.int .u8 3, .int .i64 0, .slice none 0 0, .int .i64 0] 71)) (.tuple #[Tok0, .int .i64 3]))) := Lib.hid (decode_bad _ B A1 (n - 1) c1 _ HI.out.s.arg hB2 (by omega) hok)
  clear hok
  go_wp2_with fail
  with_reducible refine (HRS.out).mono ?_
  rintro e w' ⟨rfl, rfl⟩
  go_wp2_with fail
  with_reducible refine (HD.out).mono ?_
  rintro e w3 ⟨rfl, hb3⟩
  have hlt := HI.out.lt
  have htop := HI.out.top
  have hz3 := hb3.size
  have k3' : BlkL w3 w1.heap.size [.int .u8 3, .int .i64 0, .slice none 0 0, .int .i64 0] := HI.out.k.below hb3
  have r3' := HI.out.r.below hb3
  have hk4 := k3'.alloc (.cells #[.int .i64 0, .slice none 0 0, .int .i64 0] 24)
  have hr4 := r3'.alloc (.cells #[.int .i64 0, .slice none 0 0, .int .i64 0] 24)
  have ht4 : BlkL (w3.alloc (.cells #[.int .i64 0, .slice none 0 0, .int .i64 0] 24)) w3.heap.size [.int .i64 0, .slice none 0 0, .int .i64 0] := BlkL.new w3 _ _
  have f4 : Off [sb] w (w3.alloc (.cells #[.int .i64 0, .slice none 0 0, .int .i64 0] 24)) := (HI.out.f.trans (Off.of_below hb3)).alloc _
  have O4 : Hid (OwnV (w3.alloc (.cells #[.int .i64 0, .slice none 0 0, .int .i64 0] 24)) (w1.heap.size + 1) none 0 0 (([] : List Nat).map V8)) := Lib.hid (OwnV.nil _ _)
  have hlt1 : w1.heap.size < w3.heap.size := by omega
  have t0 := hk4.cell 0 _ rfl
  have u0 := hk4.froz 0 (by simp)
  have t1 := hk4.cell 1 _ rfl
  have u1 := hk4.froz 1 (by simp)
  have t2 := hk4.cell 2 _ rfl
  have u2 := hk4.froz 2 (by simp)
  have t3 := hk4.cell 3 _ rfl
  have u3 := hk4.froz 3 (by simp)
  have q0 := ht4.cell 0 _ rfl
  have q1 := ht4.cell 1 _ rfl
  have q2 := ht4.cell 2 _ rfl
  have l4 := hk4.lt
  have l5 := ht4.lt
  have l6 := hr4.lt
  have K4 := Lib.hid hk4
  have R4 := Lib.hid hr4
  have F4 := Lib.hid f4
  clear k0 k1 k2 k3 k3' r3' hk4 hr4 ht4 f4 hb3
  go_wp2
  generalize w3.alloc (.cells #[.int .i64 0, .slice none 0 0, .int .i64 0] 24) = w4 at *
  go_region
  have f5 : Off [w1.heap.size] w4 ((((w4.setCell ⟨w1.heap.size, 1, none⟩ (.int .i64 0)).setCell ⟨w1.heap.size, 2, none⟩ (.slice none 0 0)).setCell ⟨w1.heap.size, 3, none⟩ (.int .i64 0)).drew) := ((((Off.refl _ _).setCell (p := ⟨w1.heap.size, 1, none⟩) (by simp) _).setCell (p := ⟨w1.heap.size, 2, none⟩) (by simp) _).setCell (p := ⟨w1.heap.size, 3, none⟩) (by simp) _).drew
  have k5 := (((K4.out.set 1 (.int .i64 0) (by simp)).set 2 (.slice none 0 0) (by simp)).set 3 (.int .i64 0) (by simp)).drew
  have r5 := R4.out.off f5 (by simp; omega)
  have o5 := O4.out.off f5 (fun y hy => by have := (O4.out.lt y hy).1; simp; omega)
  have f6 := F4.out.new f5 (fun y hy => by simp at hy; simp; omega)
  have R5 := Lib.hid r5
  have O5 := Lib.hid (o5.mono (B' := w.heap.size) (by omega))
  have F5 := Lib.hid f6
  have HNK : Hid (w.heap.size ∉ bkV none) := Lib.hid (by simp [bkV])
  have a0 := k5.cell 0 _ rfl
  have d10 := r5.cell 0 _ rfl
  have e0 := r5.froz 0 (by simp)
  have a1 := k5.cell 1 _ rfl
  have d11 := r5.cell 1 _ rfl
  have e1 := r5.froz 1 (by simp)
  have a2 := k5.cell 2 _ rfl
  have d12 := r5.cell 2 _ rfl
  have e2 := r5.froz 2 (by simp)
  have a3 := k5.cell 3 _ rfl
  have d13 := r5.cell 3 _ rfl
  have e3 := r5.froz 3 (by simp)
  have l7 := k5.lt
  have l8 := r5.lt
  clear f5 k5 r5 o5 f6 t0 t1 t2 t3 u0 u1 u2 u3 q0 q1 q2
  generalize ((((w4.setCell ⟨w1.heap.size, 1, none⟩ (.int .i64 0)).setCell ⟨w1.heap.size, 2, none⟩ (.slice none 0 0)).setCell ⟨w1.heap.size, 3, none⟩ (.int .i64 0)).drew) = w5 at *
  go_wp2
  exact rc_fin _ ⟨3, 0, 0, []⟩ rfl rfl _ R5.out rfl O5.out HNK.out F5.out
/-- readCall, for any bytes. -/
theorem readCall_some (w : World) (B sb : Nat) (A : Option Addr) (n c : Nat) (zs : List Nat) (h : RdS w B sb A n c zs) (hm : n ≤ 4096) (x : ClV) (hx : toldV zs = some x) : Calls Try.prog 98 #[.pointer (some ⟨sb, 0, none⟩)] w (CallE w sb x) := by
  have hl := h.arg.len
  unfold toldV at hx
  rw [hl] at hx
  by_cases h0 : n = 0
  · rw [if_pos h0] at hx; cases hx
  rw [if_neg h0] at hx
  by_cases h1 : zs.getD 0 0 = 1
  · rw [if_pos h1] at hx
    by_cases h2 : n - 1 < 2 ∨ n - 1 < 2 + (zs.drop 1).getD 1 0 + 8
    · rw [if_pos h2] at hx; cases hx
    · rw [if_neg h2] at hx
      cases hx
      exact rc_1_ok w B sb A n c zs h h1 (by omega) (by omega) (by omega)
  rw [if_neg h1] at hx
  by_cases h2 : zs.getD 0 0 = 2 ∨ zs.getD 0 0 = 4
  · rw [if_pos h2] at hx
    by_cases h3 : n - 1 < 2 ∨ n - 1 < 2 + (zs.drop 1).getD 1 0
    · rw [if_pos h3] at hx; cases hx
    · rw [if_neg h3] at hx
      cases hx
      rcases h2 with h2 | h2
      · rw [h2]; exact rc_2_ok w B sb A n c zs h h2 (by omega) (by omega)
      · rw [h2]; exact rc_4_ok w B sb A n c zs h h2 (by omega) (by omega)
  rw [if_neg h2] at hx
  by_cases h3 : zs.getD 0 0 = 3
  · rw [if_pos h3] at hx
    by_cases h4 : decOk (zs.drop 1)
    · rw [if_pos h4] at hx; cases hx
      exact rc_3_ok w B sb A n c zs h h4 h3 (by omega)
    · rw [if_neg h4] at hx; cases hx
      exact rc_3_no w B sb A n c zs h h4 h3 (by omega) hm
  rw [if_neg h3] at hx
  cases hx
  exact rc_else w B sb A n c zs h _ rfl (by omega) h1 (by omega) h3 (by omega)
theorem readCall_none (w : World) (B sb : Nat) (A : Option Addr) (n c : Nat) (zs : List Nat) (h : RdS w B sb A n c zs) (hx : toldV zs = none) : Calls Try.prog 98 #[.pointer (some ⟨sb, 0, none⟩)] w (FellO w [sb]) := by
  have hl := h.arg.len
  unfold toldV at hx
  rw [hl] at hx
  by_cases h0 : n = 0
  · exact rc_empty w B sb A n c zs h h0
  rw [if_neg h0] at hx
  by_cases h1 : zs.getD 0 0 = 1
  · rw [if_pos h1] at hx
    by_cases h2 : n - 1 < 2 ∨ n - 1 < 2 + (zs.drop 1).getD 1 0 + 8
    · rcases (by omega : n - 1 < 1 ∨ (1 ≤ n - 1 ∧ n - 1 < 2) ∨ (2 ≤ n - 1 ∧ n - 1 < 2 + (zs.drop 1).getD 1 0) ∨ (2 ≤ n - 1 ∧ 2 + (zs.drop 1).getD 1 0 ≤ n - 1 ∧ n - 1 < 2 + (zs.drop 1).getD 1 0 + 8)) with g | g | g | g
      · exact rc_1_k0 w B sb A n c zs h h1 (by omega) g
      · exact rc_1_k1 w B sb A n c zs h h1 (by omega) g.1 g.2
      · exact rc_1_k2 w B sb A n c zs h h1 (by omega) g.1 g.2
      · exact rc_1_n w B sb A n c zs h h1 (by omega) g.2.1 g.2.2
    · rw [if_neg h2] at hx; cases hx
  rw [if_neg h1] at hx
  by_cases h2 : zs.getD 0 0 = 2 ∨ zs.getD 0 0 = 4
  · rw [if_pos h2] at hx
    by_cases h3 : n - 1 < 2 ∨ n - 1 < 2 + (zs.drop 1).getD 1 0
    · rcases (by omega : n - 1 < 1 ∨ (1 ≤ n - 1 ∧ n - 1 < 2) ∨ (2 ≤ n - 1 ∧ n - 1 < 2 + (zs.drop 1).getD 1 0)) with g | g | g
      · rcases h2 with h2 | h2
        · exact rc_2_k0 w B sb A n c zs h h2 (by omega) g
        · exact rc_4_k0 w B sb A n c zs h h2 (by omega) g
      · rcases h2 with h2 | h2
        · exact rc_2_k1 w B sb A n c zs h h2 (by omega) g.1 g.2
        · exact rc_4_k1 w B sb A n c zs h h2 (by omega) g.1 g.2
      · rcases h2 with h2 | h2
        · exact rc_2_k2 w B sb A n c zs h h2 (by omega) g.1 g.2
        · exact rc_4_k2 w B sb A n c zs h h2 (by omega) g.1 g.2
    · rw [if_neg h3] at hx; cases hx
  rw [if_neg h2] at hx
  split at hx
  · split at hx <;> cases hx
  · cases hx
end Go.Proofs.Ytndgladfcogiiaa
