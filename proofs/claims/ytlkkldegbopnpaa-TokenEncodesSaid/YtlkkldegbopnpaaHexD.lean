/- Contracts: Unhex of the program, DocUnhex of the document. -/
import Derived.Test.YtlkkldegbopnpaaHexC
namespace Go.Proofs.Ytlkkldegbopnpaa
open Go.RowKit
set_option maxRecDepth 100000
set_option linter.unusedVariables false

theorem idx_any (w : World) (d : Nat) (h : d < 256) : Calls Try.prog 60 #[.string ⟨#[48, 49, 50, 51, 52, 53, 54, 55, 56, 57, 97, 98, 99, 100, 101, 102]⟩, .int .u8 (d : Int)] w fun e w' => e = .returned (.int .i64 (backV d)) ∧ w = w' := by
  refine (Try.strings_IndexByte _ (d : Int) w).mono fun e w' he => ?_
  obtain ⟨rfl, rfl⟩ := he
  refine ⟨?_, rfl⟩
  have := index_back ⟨d, h⟩
  simp only at this
  rw [← this]
  rfl

theorem or16 : ∀ a b : Fin 16, Go.bits BinOp.or IntKind.i64 ((a.val : Int) * 16) (b.val : Int) = ((16 * a.val + b.val : Nat) : Int) := by decide +kernel

/-- Bytes and OK, or none and ErrForm. -/
def UnhexEnd (w : World) (l : List Nat) (m : Nat) (e : Ending) (w' : World) : Prop :=
  (goodTo l m → NewB w (valN l m) m e w') ∧ (¬ goodTo l m → e = .returned (.tuple #[.slice none 0 0, .int .i64 3]) ∧ Below w.heap.size w w')

def UnhInv (w : World) (l : List Nat) (m : Nat) (pv iv : Value) (wr : World) : Prop :=
  ∃ (k j c : Nat) (A : Option Addr), k ≤ m ∧ j = 2 * k ∧ iv = .int .i64 (j : Int) ∧ pv = .slice A k c ∧ OwnB wr w.heap.size A k c (valN l k) ∧ goodTo l k ∧ Below w.heap.size w wr

theorem good_succ {l : List Nat} {k : Nat} (h : goodTo l k) (h1 : 0 ≤ backV (ch l (2 * k))) (h2 : 0 ≤ backV (ch l (2 * k + 1))) : goodTo l (k + 1) := by
  intro i hi
  rcases Nat.lt_or_ge i k with h3 | h3
  · exact h i h3
  · obtain rfl : i = k := by omega
    exact ⟨h1, h2⟩
theorem not_good {l : List Nat} {k m : Nat} (hk : k < m) (h : ¬ (0 ≤ backV (ch l (2 * k)) ∧ 0 ≤ backV (ch l (2 * k + 1)))) : ¬ goodTo l m := fun hg => h (hg k hk)
theorem endBad {w w' : World} {l : List Nat} {m : Nat} (h : ¬ goodTo l m) (hb : Below w.heap.size w w') : UnhexEnd w l m (.returned (.tuple #[.slice none 0 0, .int .i64 3])) w' := ⟨fun hg => absurd hg h, fun _ => ⟨rfl, hb⟩⟩
theorem endGood {w w' : World} {l : List Nat} {m c : Nat} {A : Option Addr} (h : goodTo l m) (ho : OwnB w' w.heap.size A m c (valN l m)) (hb : Below w.heap.size w w') : UnhexEnd w l m (.returned (.tuple #[.slice A m c, .int .i64 0])) w' := ⟨fun _ => ⟨A, c, rfl, ho, hb⟩, fun hn => absurd h hn⟩

theorem unhex_long (w : World) (s : ByteArray) (hs : 65536 < s.size) :
    Calls Try.prog 24 #[.string s] w (ValEnd w (.tuple #[.slice none 0 0, .int .i64 2])) := by
  go_enter Try.func24, Try.ntmps24
  go_wp2
  go_ret2
  exact ⟨rfl, Below.refl _ _⟩
theorem unhex_odd (w : World) (s : ByteArray) (hs : s.size ≤ 65536) (ho : s.size % 2 = 1) :
    Calls Try.prog 24 #[.string s] w (ValEnd w (.tuple #[.slice none 0 0, .int .i64 3])) := by
  have h1 : (s.size : Int) % 2 = 1 := by omega
  have h2 : ((s.size : Int) % 2 != 0) = true := by rw [h1]; rfl
  have h3 : ((s.size : Int) % 2 == 1) = true := by rw [h1]; rfl
  clear h1
  go_enter Try.func24, Try.ntmps24
  go_wp2
  go_ret2
  exact ⟨rfl, Below.refl _ _⟩

theorem docUnhex_long (w : World) (s : ByteArray) (hs : 65536 < s.size) :
    Calls Try.prog 25 #[.string s] w (ValEnd w (.tuple #[.slice none 0 0, .int .i64 2])) := by
  go_enter Try.func25, Try.ntmps25
  go_wp2
  go_ret2
  exact ⟨rfl, Below.refl _ _⟩
theorem docUnhex_odd (w : World) (s : ByteArray) (hs : s.size ≤ 65536) (ho : s.size % 2 = 1) :
    Calls Try.prog 25 #[.string s] w (ValEnd w (.tuple #[.slice none 0 0, .int .i64 3])) := by
  have h1 : (s.size : Int) % 2 = 1 := by omega
  have h2 : ((s.size : Int) % 2 != 0) = true := by rw [h1]; rfl
  have h3 : ((s.size : Int) % 2 == 1) = true := by rw [h1]; rfl
  clear h1
  go_enter Try.func25, Try.ntmps25
  go_wp2
  go_ret2
  exact ⟨rfl, Below.refl _ _⟩

set_option maxHeartbeats 1600000 in
theorem unhex_even (w : World) (s : ByteArray) (m : Nat) (hs : s.size = 2 * m) (hm : m ≤ 32768) :
    Calls Try.prog 24 #[.string s] w (UnhexEnd w (bl s) m) := by
  obtain ⟨i0, hi, hz0, hz1, hz2⟩ := info_parts u8_info
  have hs1 : s.size ≤ 65536 := by omega
  have h1 : (s.size : Int) % 2 = 0 := by omega
  have h2 : ((s.size : Int) % 2 != 0) = false := by rw [h1]; rfl
  have h3 : ((s.size : Int) % 2 == 1) = false := by rw [h1]; rfl
  have h4 : (s.size : Int) / 2 = (m : Int) := by omega
  have H4 := Lib.hid h4
  have HS := Lib.hid hs
  clear h1 h4 hs
  go_enter Try.func24, Try.ntmps24
  go_wp2_with (refine wpList_make_own _ rfl (.const (.int .i64 0)) (.tmp 17) _ rfl w.heap.size 5 i0 (.int .u8 0) 1 Try.underlying22 hi hz0 hz1 .i64 .i64 _ m rfl rfl H4.out (by rw [hz2]; omega) (by unfold maxLen; omega) (Nat.le_refl _) ?_)
  intro w1 hown1 hgrow1
  have HB1 := Lib.hid ((Below.refl w.heap.size w).grown hgrow1 (Nat.le_refl _) (by simp))
  have HO1 : Hid (OwnB w1 w.heap.size (some ⟨w.heap.size, 0, none⟩) 0 m []) := Lib.hid ⟨by simpa using hown1, by simp⟩
  clear hown1 hgrow1
  go_wp2
  go_loopw [4, 5] (fun pv iv wr => UnhInv w (bl s) m pv iv wr) (fun _ iv _ => s.size - (intOf iv).toNat)
  case atStart => exact ⟨0, 0, m, _, Nat.zero_le _, rfl, rfl, rfl, HO1.out, fun i hi => absurd hi (by omega), HB1.out⟩
  case round =>
    obtain ⟨k, j, cc, C, hk, hj, rfl, rfl, hown, hgood, hbel⟩ := hrel
    have hsz := hbel.size
    have HOWN := Lib.hid hown
    have HBEL := Lib.hid hbel
    have HGOOD := Lib.hid hgood
    have HJ := Lib.hid hj
    have hS := HS.out
    clear hown hbel hgood
    rcases Nat.lt_or_ge k m with h1 | h1
    · have hlt : j + 1 < s.size := by omega
      have hlt0 : j < s.size := by omega
      have hx := ch_bl s j hlt0
      have hy := ch_bl s (j + 1) hlt
      have hx2 := s[j].toNat_lt
      have hy2 := (s[j + 1]'hlt).toNat_lt
      have bx := backV_bd (s[j].toNat)
      have bY := backV_bd ((s[j + 1]'hlt).toNat)
      have HI1 : Hid (∀ w, Calls Try.prog 60 #[.string ⟨#[48, 49, 50, 51, 52, 53, 54, 55, 56, 57, 97, 98, 99, 100, 101, 102]⟩, .int .u8 (s[j].toNat : Int)] w fun e w' => e = .returned (.int .i64 (backV s[j].toNat)) ∧ w' = w) := Lib.hid fun w => (idx_any w _ hx2).mono fun e w' h => ⟨h.1, h.2.symm⟩
      have HI2 : Hid (∀ w, Calls Try.prog 60 #[.string ⟨#[48, 49, 50, 51, 52, 53, 54, 55, 56, 57, 97, 98, 99, 100, 101, 102]⟩, .int .u8 ((s[j + 1]).toNat : Int)] w fun e w' => e = .returned (.int .i64 (backV (s[j + 1]).toNat)) ∧ w' = w) := Lib.hid fun w => (idx_any w _ hy2).mono fun e w' h => ⟨h.1, h.2.symm⟩
      have HA : Hid (backV (s[j].toNat) = backV (ch (bl s) (2 * k))) := Lib.hid (by rw [hx, hj])
      have HB : Hid (backV ((s[j + 1]'hlt).toNat) = backV (ch (bl s) (2 * k + 1))) := Lib.hid (by rw [hy, hj])
      clear hx hy hj
      generalize backV (s[j].toNat) = a at *
      generalize backV ((s[j + 1]'hlt).toNat) = b at *
      have i0' : (0 : Int) ≤ (j : Int) := by omega
      have i1 : (j : Int) < (s.size : Int) := by omega
      have i2 : (j : Int) + 1 < (s.size : Int) := by omega
      have i3 : ((j : Int) + 1).toNat = j + 1 := by omega
      have i4 : IntKind.i64.wrap ((j : Int) + 1) = (j : Int) + 1 := IntWalk.i64_in _ (by omega)
      have i5 : (0 : Int) ≤ (j : Int) + 1 := by omega
      have t0 : decide ((j : Int) < (s.size : Int)) = true := decide_eq_true (by omega)
      by_cases ha : 0 ≤ a
      · have ta : decide (a < 0) = false := decide_eq_false (by omega)
        by_cases hb : 0 ≤ b
        · have tb : decide (b < 0) = false := decide_eq_false (by omega)
          have hg2 := good_succ HGOOD.out (by rw [← HA.out]; exact ha) (by rw [← HB.out]; exact hb)
          have hv2 := valN_succ (bl s) k
          rw [← HA.out, ← HB.out] at hv2
          have hor := or16 ⟨a.toNat, by omega⟩ ⟨b.toNat, by omega⟩
          simp only at hor
          rw [show ((a.toNat : Nat) : Int) = a by omega, show ((b.toNat : Nat) : Int) = b by omega, show 16 * a.toNat + b.toNat = (16 * a + b).toNat by omega] at hor
          have hv : ((16 * a + b).toNat : Int) = 16 * a + b := by omega
          have hvl : (16 * a + b).toNat < 256 := by omega
          rw [hv] at hor
          have HX := Lib.hid (lit1 wr (16 * a + b).toNat (0, 0) hvl)
          have HOA := Lib.hid (HOWN.out.below ((Below.refl wr.heap.size wr).alloc (Nat.le_refl _) (.cells #[.int .u8 ((16 * a + b).toNat : Int)] 5)))
          have HBA := Lib.hid (HBEL.out.alloc hsz (.cells #[.int .u8 ((16 * a + b).toNat : Int)] 5))
          rw [hv] at HX HOA HBA
          have HG2 := Lib.hid hg2
          have HV2 := Lib.hid hv2
          have cw : 0 ≤ 16 * a + b := by omega
          have cw2 : 16 * a + b ≤ 255 := by omega
          clear hg2 hv2 hv hS
          go_wp2
          go_quiet (first | (go_at_call 60; with_reducible exact Calls.quiet_of_same (HI1.out _)) | (go_at_call 60; with_reducible exact Calls.quiet_of_same (HI2.out _)) | (go_at_call 60; with_reducible exact Calls.quiet_of (HI1.out _)))
          go_wp2_with (refine wpList_append_bytes rfl (.tmp 40) (.tmp 46) rfl w.heap.size C k cc (valN (bl s) k) rfl (HOA.out.drewN _) (wr.heap.size + 1) (some ⟨wr.heap.size, 0, none⟩) 1 1 [(16 * a + b).toNat] rfl (HX.out.drewN _) (by omega) (by simp; omega) ?_)
          intro A2 c2 w2 ho2 hb2
          have ho3 : OwnB w2 w.heap.size A2 (k + 1) c2 (valN (bl s) (k + 1)) := by rw [HV2.out]; exact ho2
          have hb3 := (below_drewN HBA.out _).trans hb2
          have HO3 := Lib.hid ho3
          have HB3 := Lib.hid hb3
          have hkj : j + 2 = 2 * (k + 1) := by have := HJ.out; omega
          have HKJ := Lib.hid hkj
          clear ho2 hb2 ho3 hb3 hkj
          go_wp2
          go_roundw
          case rel => exact ⟨k + 1, j + 2, _, _, by omega, HKJ.out, by go_num, rfl, HO3.out, HG2.out, HB3.out⟩
          case measure => simp [intOf]; omega
        · have tb : decide (b < 0) = true := decide_eq_true (by omega)
          have HNG := Lib.hid (not_good h1 (l := bl s) (by rw [← HA.out, ← HB.out]; omega))
          clear hS
          go_wp2
          go_quiet (first | (go_at_call 60; with_reducible exact Calls.quiet_of_same (HI1.out _)) | (go_at_call 60; with_reducible exact Calls.quiet_of_same (HI2.out _)))
          go_wp2
          go_ret2
          exact endBad HNG.out (below_drewN HBEL.out _)
      · have ta : decide (a < 0) = true := decide_eq_true (by omega)
        have HNG := Lib.hid (not_good h1 (l := bl s) (by rw [← HA.out, ← HB.out]; omega))
        clear hS
        go_wp2
        go_quiet (first | (go_at_call 60; with_reducible exact Calls.quiet_of_same (HI1.out _)) | (go_at_call 60; with_reducible exact Calls.quiet_of_same (HI2.out _)))
        go_wp2
        go_ret2
        exact endBad HNG.out (below_drewN HBEL.out _)
    · obtain rfl : k = m := by omega
      have hge : ¬ (j : Int) < (s.size : Int) := by omega
      have hge2 : decide ((j : Int) < (s.size : Int)) = false := decide_eq_false (by omega)
      clear hS
      go_wp2
      go_ret2
      exact endGood HGOOD.out HOWN.out HBEL.out

set_option maxHeartbeats 1600000 in
theorem docUnhex_even (w : World) (s : ByteArray) (m : Nat) (hs : s.size = 2 * m) (hm : m ≤ 32768) :
    Calls Try.prog 25 #[.string s] w (UnhexEnd w (bl s) m) := by
  obtain ⟨i0, hi, hz0, hz1, hz2⟩ := info_parts u8_info
  have hs1 : s.size ≤ 65536 := by omega
  have h1 : (s.size : Int) % 2 = 0 := by omega
  have h2 : ((s.size : Int) % 2 != 0) = false := by rw [h1]; rfl
  have h3 : ((s.size : Int) % 2 == 1) = false := by rw [h1]; rfl
  have h4 : (s.size : Int) / 2 = (m : Int) := by omega
  have H4 := Lib.hid h4
  have HS := Lib.hid hs
  clear h1 h4 hs
  have HO1 : Hid (OwnB w w.heap.size none 0 0 []) := Lib.hid ⟨World.ownsRow_nil _ _ _ _, by simp⟩
  go_enter Try.func25, Try.ntmps25
  go_wp2
  go_loopw [4, 5] (fun pv iv wr => UnhInv w (bl s) m pv iv wr) (fun _ iv _ => s.size - (intOf iv).toNat)
  case atStart => exact ⟨0, 0, 0, none, Nat.zero_le _, rfl, rfl, rfl, HO1.out, fun i hi => absurd hi (by omega), Below.refl _ _⟩
  case round =>
    obtain ⟨k, j, cc, C, hk, hj, rfl, rfl, hown, hgood, hbel⟩ := hrel
    have hsz := hbel.size
    have HOWN := Lib.hid hown
    have HBEL := Lib.hid hbel
    have HGOOD := Lib.hid hgood
    have HJ := Lib.hid hj
    have hS := HS.out
    clear hown hbel hgood
    rcases Nat.lt_or_ge k m with h1 | h1
    · have hlt : j + 1 < s.size := by omega
      have hlt0 : j < s.size := by omega
      have hx := ch_bl s j hlt0
      have hy := ch_bl s (j + 1) hlt
      have hx2 := s[j].toNat_lt
      have hy2 := (s[j + 1]'hlt).toNat_lt
      have bx := backV_bd (s[j].toNat)
      have bY := backV_bd ((s[j + 1]'hlt).toNat)
      have HI1 : Hid (∀ w, Calls Try.prog 61 #[.int .u8 (s[j].toNat : Int)] w fun e w' => e = .returned (.int .i64 (backV s[j].toNat)) ∧ w' = w) := Lib.hid fun w => (back7_any w _ hx2).mono fun e w' h => ⟨h.1, h.2.symm⟩
      have HI2 : Hid (∀ w, Calls Try.prog 61 #[.int .u8 ((s[j + 1]).toNat : Int)] w fun e w' => e = .returned (.int .i64 (backV (s[j + 1]).toNat)) ∧ w' = w) := Lib.hid fun w => (back7_any w _ hy2).mono fun e w' h => ⟨h.1, h.2.symm⟩
      have HA : Hid (backV (s[j].toNat) = backV (ch (bl s) (2 * k))) := Lib.hid (by rw [hx, hj])
      have HB : Hid (backV ((s[j + 1]'hlt).toNat) = backV (ch (bl s) (2 * k + 1))) := Lib.hid (by rw [hy, hj])
      clear hx hy hj
      generalize backV (s[j].toNat) = a at *
      generalize backV ((s[j + 1]'hlt).toNat) = b at *
      have i0' : (0 : Int) ≤ (j : Int) := by omega
      have i1 : (j : Int) < (s.size : Int) := by omega
      have i2 : (j : Int) + 1 < (s.size : Int) := by omega
      have i3 : ((j : Int) + 1).toNat = j + 1 := by omega
      have i4 : IntKind.i64.wrap ((j : Int) + 1) = (j : Int) + 1 := IntWalk.i64_in _ (by omega)
      have i5 : (0 : Int) ≤ (j : Int) + 1 := by omega
      have t0 : decide ((j : Int) + 1 < (s.size : Int)) = true := decide_eq_true (by omega)
      by_cases ha : 0 ≤ a
      · have ta : decide (a < 0) = false := decide_eq_false (by omega)
        by_cases hb : 0 ≤ b
        · have tb : decide (b < 0) = false := decide_eq_false (by omega)
          have hg2 := good_succ HGOOD.out (by rw [← HA.out]; exact ha) (by rw [← HB.out]; exact hb)
          have hv2 := valN_succ (bl s) k
          rw [← HA.out, ← HB.out] at hv2
          have hor := or16 ⟨a.toNat, by omega⟩ ⟨b.toNat, by omega⟩
          simp only at hor
          rw [show ((a.toNat : Nat) : Int) = a by omega, show ((b.toNat : Nat) : Int) = b by omega, show 16 * a.toNat + b.toNat = (16 * a + b).toNat by omega] at hor
          have hv : ((16 * a + b).toNat : Int) = 16 * a + b := by omega
          have hvl : (16 * a + b).toNat < 256 := by omega
          rw [hv] at hor
          have HX := Lib.hid (lit1 wr (16 * a + b).toNat (0, 0) hvl)
          have HOA := Lib.hid (HOWN.out.below ((Below.refl wr.heap.size wr).alloc (Nat.le_refl _) (.cells #[.int .u8 ((16 * a + b).toNat : Int)] 5)))
          have HBA := Lib.hid (HBEL.out.alloc hsz (.cells #[.int .u8 ((16 * a + b).toNat : Int)] 5))
          rw [hv] at HX HOA HBA
          have HG2 := Lib.hid hg2
          have HV2 := Lib.hid hv2
          have cw : 0 ≤ 16 * a + b := by omega
          have cw2 : 16 * a + b ≤ 255 := by omega
          clear hg2 hv2 hv hS
          go_wp2
          go_quiet (first | (go_at_call 61; with_reducible exact Calls.quiet_of_same (HI1.out _)) | (go_at_call 61; with_reducible exact Calls.quiet_of_same (HI2.out _)) | (go_at_call 61; with_reducible exact Calls.quiet_of (HI1.out _)))
          go_wp2_with (refine wpList_append_bytes rfl (.tmp 37) (.tmp 43) rfl w.heap.size C k cc (valN (bl s) k) rfl (HOA.out.drewN _) (wr.heap.size + 1) (some ⟨wr.heap.size, 0, none⟩) 1 1 [(16 * a + b).toNat] rfl (HX.out.drewN _) (by omega) (by simp; omega) ?_)
          intro A2 c2 w2 ho2 hb2
          have ho3 : OwnB w2 w.heap.size A2 (k + 1) c2 (valN (bl s) (k + 1)) := by rw [HV2.out]; exact ho2
          have hb3 := (below_drewN HBA.out _).trans hb2
          have HO3 := Lib.hid ho3
          have HB3 := Lib.hid hb3
          have hkj : j + 2 = 2 * (k + 1) := by have := HJ.out; omega
          have HKJ := Lib.hid hkj
          clear ho2 hb2 ho3 hb3 hkj
          go_wp2
          go_roundw
          case rel => exact ⟨k + 1, j + 2, _, _, by omega, HKJ.out, by go_num, rfl, HO3.out, HG2.out, HB3.out⟩
          case measure => simp [intOf]; omega
        · have tb : decide (b < 0) = true := decide_eq_true (by omega)
          have HNG := Lib.hid (not_good h1 (l := bl s) (by rw [← HA.out, ← HB.out]; omega))
          clear hS
          go_wp2
          go_quiet (first | (go_at_call 61; with_reducible exact Calls.quiet_of_same (HI1.out _)) | (go_at_call 61; with_reducible exact Calls.quiet_of_same (HI2.out _)))
          go_wp2
          go_ret2
          exact endBad HNG.out (below_drewN HBEL.out _)
      · have ta : decide (a < 0) = true := decide_eq_true (by omega)
        have HNG := Lib.hid (not_good h1 (l := bl s) (by rw [← HA.out, ← HB.out]; omega))
        clear hS
        go_wp2
        go_quiet (first | (go_at_call 61; with_reducible exact Calls.quiet_of_same (HI1.out _)) | (go_at_call 61; with_reducible exact Calls.quiet_of_same (HI2.out _)))
        go_wp2
        go_ret2
        exact endBad HNG.out (below_drewN HBEL.out _)
    · obtain rfl : k = m := by omega
      have hge : ¬ (j : Int) + 1 < (s.size : Int) := by omega
      have hge2 : decide ((j : Int) + 1 < (s.size : Int)) = false := decide_eq_false (by omega)
      clear hS
      go_wp2
      go_ret2
      exact endGood HGOOD.out HOWN.out HBEL.out

end Go.Proofs.Ytlkkldegbopnpaa
