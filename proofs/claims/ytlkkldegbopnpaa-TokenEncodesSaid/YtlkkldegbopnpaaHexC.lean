/- Contracts: Hex of the document; back; DocUnhex. -/
import Derived.Test.YtlkkldegbopnpaaHexB
namespace Go.Proofs.Ytlkkldegbopnpaa
open Go.RowKit
set_option maxRecDepth 100000
set_option linter.unusedVariables false

theorem half7_any (w : World) (d : Nat) (h : d < 16) : Calls Try.prog 65 #[.int .u8 (d : Int)] w fun e w' => e = .returned (.int .u8 ((hexC d : Nat) : Int)) ∧ w = w' := by
  rcases Nat.lt_or_ge d 10 with h1 | h1
  · have HV : Hid (hexC d = 48 + d) := Lib.hid (by unfold hexC; rw [if_pos h1])
    go_enter Try.func65, Try.ntmps65
    go_wp2
    go_ret
    exact ⟨ret_int (by rw [HV.out]; omega), rfl⟩
  · have HV : Hid (hexC d = 87 + d) := Lib.hid (by unfold hexC; rw [if_neg (by omega)])
    have hlt : decide ((d : Int) < 10) = false := decide_eq_false (by omega)
    go_enter Try.func65, Try.ntmps65
    go_wp2
    go_ret
    exact ⟨ret_int (by rw [HV.out]; omega), rfl⟩

theorem back7_any (w : World) (d : Nat) (h : d < 256) : Calls Try.prog 61 #[.int .u8 (d : Int)] w fun e w' => e = .returned (.int .i64 (backV d)) ∧ w = w' := by
  by_cases h1 : 48 ≤ d ∧ d ≤ 57
  · have HV : Hid (backV d = (d : Int) - 48) := Lib.hid (by unfold backV; rw [if_pos h1])
    obtain ⟨h2, h3⟩ := h1
    have b1 : decide ((48 : Int) ≤ (d : Int)) = true := decide_eq_true (by omega)
    have b2 : decide ((d : Int) ≤ 57) = true := decide_eq_true (by omega)
    go_enter Try.func61, Try.ntmps61
    go_wp2
    go_ret
    exact ⟨ret_int (by rw [HV.out]), rfl⟩
  · by_cases h4 : 97 ≤ d ∧ d ≤ 102
    · have HV : Hid (backV d = (d : Int) - 87) := Lib.hid (by unfold backV; rw [if_neg h1, if_pos h4])
      obtain ⟨h2, h3⟩ := h4
      clear h1
      have b1 : decide ((48 : Int) ≤ (d : Int)) = true := decide_eq_true (by omega)
      have b2 : decide ((d : Int) ≤ 57) = false := decide_eq_false (by omega)
      have b3 : decide ((97 : Int) ≤ (d : Int)) = true := decide_eq_true (by omega)
      have b4 : decide ((d : Int) ≤ 102) = true := decide_eq_true (by omega)
      go_enter Try.func61, Try.ntmps61
      go_wp2
      go_ret
      exact ⟨ret_int (by rw [HV.out]; omega), rfl⟩
    · have HV : Hid (backV d = -1) := Lib.hid (by unfold backV; rw [if_neg h1, if_neg h4])
      have hc1 : (decide ((48 : Int) ≤ (d : Int)) && decide ((d : Int) ≤ 57)) = false := by simp; omega
      rcases Nat.lt_or_ge d 48 with g1 | g1
      · clear h1 h4 hc1
        have b1 : decide ((48 : Int) ≤ (d : Int)) = false := decide_eq_false (by omega)
        have b3 : decide ((97 : Int) ≤ (d : Int)) = false := decide_eq_false (by omega)
        go_enter Try.func61, Try.ntmps61
        go_wp2
        go_ret
        exact ⟨ret_int (by rw [HV.out]), rfl⟩
      · have b1 : decide ((48 : Int) ≤ (d : Int)) = true := decide_eq_true (by omega)
        have b2 : decide ((d : Int) ≤ 57) = false := decide_eq_false (by omega)
        rcases Nat.lt_or_ge d 97 with g2 | g2
        · clear h1 h4 hc1
          have b3 : decide ((97 : Int) ≤ (d : Int)) = false := decide_eq_false (by omega)
          go_enter Try.func61, Try.ntmps61
          go_wp2
          go_ret
          exact ⟨ret_int (by rw [HV.out]), rfl⟩
        · have b3 : decide ((97 : Int) ≤ (d : Int)) = true := decide_eq_true (by omega)
          have b4 : decide ((d : Int) ≤ 102) = false := decide_eq_false (by omega)
          clear h1 h4 hc1
          go_enter Try.func61, Try.ntmps61
          go_wp2
          go_ret
          exact ⟨ret_int (by rw [HV.out]), rfl⟩

def RHexInv (w : World) (zs : List Nat) (n : Nat) (bv iv : Value) (wr : World) : Prop :=
  ∃ (k c : Nat) (A : Option Addr), k ≤ n ∧ iv = .int .i64 (k : Int) ∧ bv = .slice A (2 * k) c ∧ OwnB wr w.heap.size A (2 * k) c (hexV (zs.take k)) ∧ Below w.heap.size w wr

theorem conv_any {w : World} {B n c : Nat} {A : Option Addr} {zs : List Nat} (h : OwnB w B A n c zs) :
    (convert 22 9 (.slice A n c)).run Try.prog w = .ok (.string (bytesArr zs)) w := by
  have e : strOfNums (zs.map Int.ofNat) = bytesArr zs := by
    unfold strOfNums bytesArr
    rw [List.map_map]
    congr 2
  have hl := h.len
  rcases h.1.2 with ⟨h1, h2⟩ | ⟨g, cap, cur, h1, _⟩
  · simp only [Value.slice.injEq] at h1
    obtain ⟨rfl, _, rfl⟩ := h1
    obtain rfl : zs = [] := List.eq_nil_of_length_eq_zero (by omega)
    exact run_convert_bytes_nil w 22 5 Try.underlying22 Try.underlying5 n 0 9 Try.underlying9
  · simp only [Value.slice.injEq, true_and] at h1
    obtain ⟨rfl, rfl⟩ := h1
    have ha := h.arg
    rw [← e]
    refine run_convert_bytes_arg w 22 5 Try.underlying22 Try.underlying5 g 0 n c _ (by simp [hl]) (fun i hi => ?_) 9 Try.underlying9
    obtain ⟨b, off, e2, _, hc⟩ := ha.at_ (by omega)
    simp only [Option.some.injEq, Addr.mk.injEq, and_true] at e2
    obtain ⟨rfl, rfl⟩ := e2
    rw [hc i hi]
    simp [List.getD_eq_getElem?_getD, hl, hi]

set_option maxHeartbeats 1600000 in
theorem hex7_any (w : World) (B : Nat) (A : Option Addr) (n c : Nat) (zs : List Nat) (h : Arg w B A n c zs) (hB : B ≤ w.heap.size) (hn : n ≤ 1048576) :
    Calls Try.prog 27 #[.slice A n c] w (ValEnd w (.string (bytesArr (hexV zs)))) := by
  have HA := Lib.hid (h.more hB)
  have HLEN := Lib.hid h.len
  have hle := h.le
  have hcap := h.cap
  unfold maxLen at hcap
  clear h
  have HO0 : Hid (OwnB w w.heap.size none 0 0 []) := Lib.hid ⟨World.ownsRow_nil _ _ _ _, by simp⟩
  go_enter Try.func27, Try.ntmps27
  go_wp2
  go_loopw [3, 8] (fun bv iv wr => RHexInv w zs n bv iv wr) (fun _ iv _ => n - (intOf iv).toNat)
  case atStart => exact ⟨0, 0, none, Nat.zero_le _, rfl, rfl, HO0.out, Below.refl _ _⟩
  case round =>
    obtain ⟨k, cc, C, hk, rfl, rfl, hown, hbel⟩ := hrel
    clear HO0
    have hsz := hbel.size
    have HOWN := Lib.hid hown
    have HBEL := Lib.hid hbel
    have hAk := HA.out.below hbel
    clear hown hbel
    rcases Nat.lt_or_ge k n with h1 | h1
    · obtain ⟨b, off, rfl, _, hc⟩ := hAk.at_ (by omega)
      have hck := hc k h1
      have hd := hAk.lt k
      have hst := hexV_take zs k (by rw [HLEN.out]; exact h1)
      clear hc hAk
      generalize zs.getD k 0 = x at hck hd hst
      have HST := Lib.hid hst
      have hc1 : ((x / 16 : Nat) : Int) = (x : Int) / 16 := by omega
      have hc2 : ((x % 16 : Nat) : Int) = (x : Int) % 16 := by omega
      have H1 := half7_any wr (x / 16) (by omega)
      have H2 := half7_any wr (x % 16) (by omega)
      rw [hc1] at H1
      rw [hc2] at H2
      have HX := Lib.hid (lit2 wr (hexC (x / 16)) (hexC (x % 16)) (0, 0) (hexC_lt (by omega)) (hexC_lt (by omega)))
      have g1 : hexC (x / 16) < 256 := hexC_lt (by omega)
      have g2 : hexC (x % 16) < 256 := hexC_lt (by omega)
      have HH1 := Lib.hid H1
      have HH2 := Lib.hid H2
      clear hst hc1 hc2 H1 H2
      generalize hexC (x / 16) = y at *
      generalize hexC (x % 16) = z at *
      have HOA := Lib.hid (HOWN.out.below ((Below.refl wr.heap.size wr).alloc (Nat.le_refl _) (.cells #[.int .u8 (y : Int), .int .u8 (z : Int)] 5)))
      go_wp2_with fail
      with_reducible refine HH1.out.mono ?_
      rintro e w2 ⟨rfl, rfl⟩
      go_wp2_with fail
      with_reducible refine HH2.out.mono ?_
      rintro e w2 ⟨rfl, rfl⟩
      go_wp2_with (refine wpList_append_bytes rfl (.tmp 12) (.tmp 19) rfl w.heap.size C (2 * k) cc (hexV (zs.take k)) rfl HOA.out (wr.heap.size + 1) (some ⟨wr.heap.size, 0, none⟩) 2 2 [y, z] rfl HX.out (by omega) (by simp; omega) ?_)
      intro A2 c2 w2 ho2 hb2
      have ho3 : OwnB w2 w.heap.size A2 (2 * k + 2) c2 (hexV (zs.take (k + 1))) := by rw [HST.out]; exact ho2
      have hb3 := (HBEL.out.alloc (by omega) (.cells #[.int .u8 (y : Int), .int .u8 (z : Int)] 5)).trans hb2
      have HO3 := Lib.hid ho3
      have HB3 := Lib.hid hb3
      clear ho2 hb2 ho3 hb3
      go_wp2
      go_roundw
      case rel => exact ⟨k + 1, _, _, by omega, by go_num, rfl, HO3.out, HB3.out⟩
      case measure => simp [intOf]; omega
    · obtain rfl : k = n := by omega
      have hown2 := HOWN.out
      rw [List.take_of_length_le (by rw [HLEN.out]; exact Nat.le_refl _)] at hown2
      have hcv := conv_any hown2
      clear hown2
      go_wp2
      go_ret
      exact ⟨rfl, HBEL.out⟩
end Go.Proofs.Ytlkkldegbopnpaa
