/- Contracts: DocRequest whole; readKey. -/
import Derived.Test.YtndgladfcogiiaaWrJ
namespace Go.Proofs.Ytndgladfcogiiaa
open Go.RowKit
set_option maxRecDepth 100000
set_option linter.unusedVariables false

theorem docRequest_any (w : World) (B o : Nat) (p s : Int) (A : Option Addr) (n c : Nat) (zs : List Nat) (h : Arg w B A n c zs) (hB : B ≤ w.heap.size) : Calls Try.prog 45 #[ClA o p A n c s] w (ReqE w o p s zs) := by
  by_cases ho : o < 1 ∨ 6 < o
  · exact drq_no w o p s A n c zs ho
  have hl := h.len
  rcases (by omega : o = 5 ∨ o = 6 ∨ o = 1 ∨ o = 2 ∨ o = 3 ∨ o = 4) with rfl | rfl | ho4
  · exact drq_5 w p s A n c zs
  · exact drq_6 w p s A n c zs
  by_cases hp0 : p < 0
  · rcases ho4 with rfl | rfl | rfl | rfl
    · exact drq_pl1 w p s A n c zs hp0
    · exact drq_pl2 w p s A n c zs hp0
    · exact drq_pl3 w p s A n c zs hp0
    · exact drq_pl4 w p s A n c zs hp0
  by_cases hp1 : 32 ≤ p
  · rcases ho4 with rfl | rfl | rfl | rfl
    · exact drq_ph1 w p s A n c zs hp1
    · exact drq_ph2 w p s A n c zs hp1
    · exact drq_ph3 w p s A n c zs hp1
    · exact drq_ph4 w p s A n c zs hp1
  obtain ⟨q, rfl⟩ : ∃ q : Nat, p = (q : Int) := ⟨p.toNat, by omega⟩
  rcases ho4 with rfl | rfl | rfl | rfl
  · cases hs : tkB s with
    | false => exact drq_n1 w q s A n c zs (by omega) (by omega) hs
    | true =>
      by_cases hn : 255 < n
      · exact drq_l1 w q s A n c zs hl (by omega) (by omega) hs hn
      · have hss := tkB_true hs
        obtain ⟨t, rfl⟩ : ∃ q : Nat, s = (q : Int) := ⟨s.toNat, by omega⟩
        exact drq_g1 w B q t A n c zs h hB (by omega) (by omega) (by omega)
  · by_cases hn : 255 < n
    · exact drq_l2 w q s A n c zs hl (by omega) (by omega) hn
    · exact drq_g2 w B q s A n c zs h hB (by omega) (by omega)
  · by_cases hs : s < 1
    · exact drq_nl3 w q s A n c zs (by omega) (by omega) hs
    by_cases hs2 : 4611686018427387903 < s
    · exact drq_nh3 w q s A n c zs (by omega) (by omega) hs2
    by_cases hn : 255 < n
    · exact drq_l3 w q s A n c zs hl (by omega) (by omega) (by omega) (by omega) hn
    · obtain ⟨t, rfl⟩ : ∃ q : Nat, s = (q : Int) := ⟨s.toNat, by omega⟩
      exact drq_g3 w B q t A n c zs h hB (by omega) (by omega) (by omega) (by omega)
  · by_cases hn : 255 < n
    · exact drq_l4 w q s A n c zs hl (by omega) (by omega) hn
    · exact drq_g4 w B q s A n c zs h hB (by omega) (by omega)

/-- What readKey leaves. -/
def KeyE (w : World) (B sb cb n o : Nat) (zs : List Nat) (e : Ending) (w' : World) : Prop :=
  ∃ KA kc A' c', e = .returned (.tuple #[]) ∧ BlkL w' cb [.int .u8 (o : Int), .int .i64 (zs.getD 0 0 : Nat), .slice KA (zs.getD 1 0) kc, .int .i64 0] ∧ RdS w' B sb A' (n - 2 - zs.getD 1 0) c' (zs.drop (2 + zs.getD 1 0)) ∧
    OwnV w' w.heap.size KA (zs.getD 1 0) kc (((zs.drop 2).take (zs.getD 1 0)).map V8) ∧ Off [sb, cb] w w'
theorem take_s (w : World) (B sb m : Nat) (A : Option Addr) (n c : Nat) (zs : List Nat) (h : RdS w B sb A n c zs) (hm : m ≤ n) : Calls Try.prog 124 #[.pointer (some ⟨sb, 0, none⟩), .int .i64 (m : Int)] w fun e w' =>
    ∃ A' c', e = .returned (.slice A m c) ∧ RdS w' B sb A' (n - m) c' (zs.drop m) ∧ Arg w' B A m c (zs.take m) ∧ Off [sb] w w' ∧ w'.heap.size = w.heap.size := by
  refine (take_ok w sb m A n c h.blk hm h.arg.le).mono ?_
  rintro e w' ⟨rfl, rfl⟩
  exact ⟨frB A c m, c - m, rfl, ⟨h.blk.set 0 _ (by simp), (h.arg.fromB hm).below ((Below.refl _ _).setCell h.le _), h.le⟩, (h.arg.take hm).below ((Below.refl _ _).setCell h.le _), (Off.refl _ _).setCell (p := ⟨sb, 0, none⟩) (by simp) _, by simp⟩
set_option linter.unusedSectionVars false
theorem key_no0 (w : World) (B sb cb o : Nat) (A : Option Addr) (n c : Nat) (zs : List Nat) (h : RdS w B sb A n c zs) (hc : BlkL w cb [.int .u8 (o : Int), .int .i64 0, .slice none 0 0, .int .i64 0]) (hne : cb ≠ sb) (hBc : B ≤ cb) (hn : n < 1) : Calls Try.prog 126 #[.pointer (some ⟨sb, 0, none⟩), .pointer (some ⟨cb, 0, none⟩)] w (FellO w [sb, cb]) := by
  have HN := Lib.hid (num1_no w B sb A n c zs h hn)
  clear h hc
  go_enter Try.func126, Try.ntmps126
  go_wp2_with fail
  with_reducible refine (HN.out).mono ?_
  rintro e w' ⟨rfl, rfl⟩
  exact ⟨rfl, rfl, Off.refl _ _⟩
theorem key_no1 (w : World) (B sb cb o : Nat) (A : Option Addr) (n c : Nat) (zs : List Nat) (h : RdS w B sb A n c zs) (hc : BlkL w cb [.int .u8 (o : Int), .int .i64 0, .slice none 0 0, .int .i64 0]) (hne : cb ≠ sb) (hBc : B ≤ cb) (hn1 : 1 ≤ n) (hn : n < 2) : Calls Try.prog 126 #[.pointer (some ⟨sb, 0, none⟩), .pointer (some ⟨cb, 0, none⟩)] w (FellO w [sb, cb]) := by
  obtain ⟨z0, hz0⟩ : ∃ r, zs.getD 0 0 = r := ⟨_, rfl⟩
  have hb0 : z0 < 256 := by rw [← hz0]; exact h.arg.lt 0
  have e0 : IntKind.i64.wrap (z0 : Int) = (z0 : Int) := IntWalk.i64_in _ (by omega)
  have HZ0 := Lib.hid hz0
  have HN := Lib.hid (num1 w B sb z0 A n c zs h hz0 (by omega))
  have HC := Lib.hid hc
  have HWB := Lib.hid h.arg.byte
  clear h hc hz0
  go_enter Try.func126, Try.ntmps126
  go_wp2_with fail
  with_reducible refine (HN.out).mono ?_
  rintro e w1 ⟨A1, c1, rfl, hs1, hf1⟩
  have k1 := HC.out.off hf1 (by simpa using hne)
  have x1 := k1.cell 1 _ rfl
  have y1 := k1.froz 1 (by simp)
  have l1 := k1.lt
  have of1 : Off [cb] w1 (w1.setCell ⟨cb, 1, none⟩ (.int .i64 (z0 : Int))) := (Off.refl [cb] w1).setCell (p := ⟨cb, 1, none⟩) (by simp) _
  have s2 := hs1.off of1 (by simp; omega) (by intro y hy; simp at hy; omega)
  have k2 := k1.set 1 (.int .i64 (z0 : Int)) (by simp)
  have f2 : Off [sb, cb] w (w1.setCell ⟨cb, 1, none⟩ (.int .i64 (z0 : Int))) := (hf1.mono (by simp)).trans (of1.mono (by simp))
  have S2 := Lib.hid s2
  have K2 := Lib.hid k2
  have F2 := Lib.hid f2
  have HNX : Hid (w1.setCell ⟨cb, 1, none⟩ (.int .i64 (z0 : Int)) = w1.setCell ⟨cb, 1, none⟩ (.int .i64 (z0 : Int))) := Lib.hid rfl
  clear hs1 hf1 k1 s2 k2 f2 of1
  have HX := Lib.hid (num1_no _ _ _ _ _ _ _ S2.out (by omega))
  go_wp2_with fail
  with_reducible refine (HX.out).mono ?_
  rintro e w' ⟨rfl, rfl⟩
  exact ⟨rfl, rfl, F2.out⟩
theorem key_no2 (w : World) (B sb cb o : Nat) (A : Option Addr) (n c : Nat) (zs : List Nat) (h : RdS w B sb A n c zs) (hc : BlkL w cb [.int .u8 (o : Int), .int .i64 0, .slice none 0 0, .int .i64 0]) (hne : cb ≠ sb) (hBc : B ≤ cb) (hn1 : 2 ≤ n) (hn : n < 2 + zs.getD 1 0) : Calls Try.prog 126 #[.pointer (some ⟨sb, 0, none⟩), .pointer (some ⟨cb, 0, none⟩)] w (FellO w [sb, cb]) := by
  obtain ⟨z0, hz0⟩ : ∃ r, zs.getD 0 0 = r := ⟨_, rfl⟩
  have hb0 : z0 < 256 := by rw [← hz0]; exact h.arg.lt 0
  have e0 : IntKind.i64.wrap (z0 : Int) = (z0 : Int) := IntWalk.i64_in _ (by omega)
  have HZ0 := Lib.hid hz0
  have HN := Lib.hid (num1 w B sb z0 A n c zs h hz0 (by omega))
  have HC := Lib.hid hc
  have HWB := Lib.hid h.arg.byte
  obtain ⟨k, hk⟩ : ∃ r, (zs.drop 1).getD 0 0 = r := ⟨_, rfl⟩
  have hkb : k < 256 := by rw [← hk]; simpa [List.getD_eq_getElem?_getD] using h.arg.lt 1
  have ek : IntKind.i64.wrap (k : Int) = (k : Int) := IntWalk.i64_in _ (by omega)
  have hkz : zs.getD 1 0 = k := by rw [← hk]; simp [List.getD_eq_getElem?_getD]
  have HK := Lib.hid hk
  rw [hkz] at hn
  clear hk
  clear h hc hz0
  go_enter Try.func126, Try.ntmps126
  go_wp2_with fail
  with_reducible refine (HN.out).mono ?_
  rintro e w1 ⟨A1, c1, rfl, hs1, hf1⟩
  have k1 := HC.out.off hf1 (by simpa using hne)
  have x1 := k1.cell 1 _ rfl
  have y1 := k1.froz 1 (by simp)
  have l1 := k1.lt
  have of1 : Off [cb] w1 (w1.setCell ⟨cb, 1, none⟩ (.int .i64 (z0 : Int))) := (Off.refl [cb] w1).setCell (p := ⟨cb, 1, none⟩) (by simp) _
  have s2 := hs1.off of1 (by simp; omega) (by intro y hy; simp at hy; omega)
  have k2 := k1.set 1 (.int .i64 (z0 : Int)) (by simp)
  have f2 : Off [sb, cb] w (w1.setCell ⟨cb, 1, none⟩ (.int .i64 (z0 : Int))) := (hf1.mono (by simp)).trans (of1.mono (by simp))
  have S2 := Lib.hid s2
  have K2 := Lib.hid k2
  have F2 := Lib.hid f2
  have HNX : Hid (w1.setCell ⟨cb, 1, none⟩ (.int .i64 (z0 : Int)) = w1.setCell ⟨cb, 1, none⟩ (.int .i64 (z0 : Int))) := Lib.hid rfl
  clear hs1 hf1 k1 s2 k2 f2 of1
  have HX := Lib.hid (num1 _ _ _ k _ _ _ _ S2.out HK.out (by omega))
  go_wp2_with fail
  with_reducible refine (HX.out).mono ?_
  rintro e w3 ⟨A3, c3, rfl, hs3, hf3⟩
  have S3 := Lib.hid hs3
  have K3 := Lib.hid (K2.out.off hf3 (by simpa using hne))
  have F3 := Lib.hid (F2.out.trans (hf3.mono (by simp)))
  clear hs3 hf3 HX x1 y1
  have HT := Lib.hid (take_fell _ _ k _ _ _ S3.out.blk (by omega))
  go_wp2_with fail
  with_reducible refine (HT.out).mono ?_
  rintro e w' ⟨rfl, rfl⟩
  exact ⟨rfl, rfl, F3.out⟩
set_option maxHeartbeats 1600000 in
theorem key_ok (w : World) (B sb cb o : Nat) (A : Option Addr) (n c : Nat) (zs : List Nat) (h : RdS w B sb A n c zs) (hc : BlkL w cb [.int .u8 (o : Int), .int .i64 0, .slice none 0 0, .int .i64 0]) (hne : cb ≠ sb) (hBc : B ≤ cb) (hn1 : 2 ≤ n) (hn : 2 + zs.getD 1 0 ≤ n) : Calls Try.prog 126 #[.pointer (some ⟨sb, 0, none⟩), .pointer (some ⟨cb, 0, none⟩)] w (KeyE w B sb cb n o zs) := by
  obtain ⟨z0, hz0⟩ : ∃ r, zs.getD 0 0 = r := ⟨_, rfl⟩
  have hb0 : z0 < 256 := by rw [← hz0]; exact h.arg.lt 0
  have e0 : IntKind.i64.wrap (z0 : Int) = (z0 : Int) := IntWalk.i64_in _ (by omega)
  have HZ0 := Lib.hid hz0
  have HN := Lib.hid (num1 w B sb z0 A n c zs h hz0 (by omega))
  have HC := Lib.hid hc
  have HWB := Lib.hid h.arg.byte
  obtain ⟨k, hk⟩ : ∃ r, (zs.drop 1).getD 0 0 = r := ⟨_, rfl⟩
  have hkb : k < 256 := by rw [← hk]; simpa [List.getD_eq_getElem?_getD] using h.arg.lt 1
  have ek : IntKind.i64.wrap (k : Int) = (k : Int) := IntWalk.i64_in _ (by omega)
  have hkz : zs.getD 1 0 = k := by rw [← hk]; simp [List.getD_eq_getElem?_getD]
  have HK := Lib.hid hk
  rw [hkz] at hn
  clear hk
  have HKZ := Lib.hid hkz
  clear h hc hz0
  go_enter Try.func126, Try.ntmps126
  go_wp2_with fail
  with_reducible refine (HN.out).mono ?_
  rintro e w1 ⟨A1, c1, rfl, hs1, hf1⟩
  have k1 := HC.out.off hf1 (by simpa using hne)
  have x1 := k1.cell 1 _ rfl
  have y1 := k1.froz 1 (by simp)
  have l1 := k1.lt
  have of1 : Off [cb] w1 (w1.setCell ⟨cb, 1, none⟩ (.int .i64 (z0 : Int))) := (Off.refl [cb] w1).setCell (p := ⟨cb, 1, none⟩) (by simp) _
  have s2 := hs1.off of1 (by simp; omega) (by intro y hy; simp at hy; omega)
  have k2 := k1.set 1 (.int .i64 (z0 : Int)) (by simp)
  have f2 : Off [sb, cb] w (w1.setCell ⟨cb, 1, none⟩ (.int .i64 (z0 : Int))) := (hf1.mono (by simp)).trans (of1.mono (by simp))
  have S2 := Lib.hid s2
  have K2 := Lib.hid k2
  have F2 := Lib.hid f2
  have HNX : Hid (w1.setCell ⟨cb, 1, none⟩ (.int .i64 (z0 : Int)) = w1.setCell ⟨cb, 1, none⟩ (.int .i64 (z0 : Int))) := Lib.hid rfl
  clear hs1 hf1 k1 s2 k2 f2 of1
  have HX := Lib.hid (num1 _ _ _ k _ _ _ _ S2.out HK.out (by omega))
  go_wp2_with fail
  with_reducible refine (HX.out).mono ?_
  rintro e w3 ⟨A3, c3, rfl, hs3, hf3⟩
  have S3 := Lib.hid hs3
  have K3 := Lib.hid (K2.out.off hf3 (by simpa using hne))
  have F3 := Lib.hid (F2.out.trans (hf3.mono (by simp)))
  clear hs3 hf3 HX x1 y1
  have HT := Lib.hid (take_s _ _ _ k _ _ _ _ S3.out (by omega))
  go_wp2_with fail
  with_reducible refine (HT.out).mono ?_
  rintro e w4 ⟨A4, c4, rfl, hs4, ha4, hf4, hz4⟩
  have S4 := Lib.hid hs4
  have K4 := Lib.hid (K3.out.off hf4 (by simpa using hne))
  have F4 := Lib.hid (F3.out.trans (hf4.mono (by simp)))
  have HB4 : B ≤ w4.heap.size := by have := S4.out.blk.lt; have := S4.out.le; omega
  have HCL := Lib.hid (clone_all w4 _ _ _ _ (ha4.more HB4) (by omega))
  clear hs4 hf4 ha4 HT
  go_wp2_with fail
  with_reducible refine (HCL.out).mono ?_
  rintro e w5 ⟨KA, kc, rfl, ho5, hb5⟩
  have k5 := K4.out.below hb5
  have x5 := k5.cell 2 _ rfl
  have y5 := k5.froz 2 (by simp)
  have l5 := k5.lt
  have of5 : Off [cb] w5 (w5.setCell ⟨cb, 2, none⟩ (.slice KA k kc)) := (Off.refl [cb] w5).setCell (p := ⟨cb, 2, none⟩) (by simp) _
  have hcb4 : cb < w4.heap.size := K4.out.lt
  have HE : Hid (KeyE w B sb cb n o zs (.returned (.tuple #[])) (w5.setCell ⟨cb, 2, none⟩ (.slice KA k kc))) := by
    refine Lib.hid ?_
    unfold KeyE
    rw [HKZ.out, HZ0.out]
    refine ⟨KA, kc, A4, c4, rfl, k5.set 2 (.slice KA k kc) (by simp), ?_, ?_, ?_⟩
    · have := (S4.out.below hb5).off of5 (by simp; omega) (by intro y hy; simp at hy; omega)
      rw [show n - 2 - k = n - 1 - 1 - k by omega, show zs.drop (2 + k) = ((zs.drop 1).drop 1).drop k by simp only [List.drop_drop] <;> (first | rfl | (congr 1; omega))]
      exact this
    · have hw : w.heap.size ≤ w4.heap.size := F4.out.size
      have := ho5.off of5 (fun y hy => by have := (ho5.lt y hy).1; simp; omega)
      rw [show zs.drop 2 = (zs.drop 1).drop 1 by simp only [List.drop_drop]]
      exact this.mono hw
    · exact (F4.out.trans (Off.of_below hb5)).trans (of5.mono (by simp))
  clear k5 of5 ho5 hb5 HCL
  go_wp2
  go_end0
  exact HE.out
end Go.Proofs.Ytndgladfcogiiaa
