/- Contracts: the small functions of token, by the program and by the document: bytes of a number. -/
import Derived.Test.YtndgladfcogiiaaTokM
import Derived.Test.YtndgladfcogiiaaIdent
import Derived.Test.YtndgladfcogiiaaEnd
import Derived.IntWalk
import Derived.Outline
namespace Go.Proofs.Ytndgladfcogiiaa
open Go.RowKit
set_option maxRecDepth 100000
set_option linter.unusedVariables false

theorem isPolicy_any (w : World) (p : Int) (r : Bool) (hr : Hid ((decide (0 ≤ p) && decide (p < 32)) = r)) : Calls Try.prog 68 #[.int .i64 p] w fun e w' => e = .returned (.bool r) ∧ w = w' := by
  by_cases h0 : 0 ≤ p
  · by_cases h1 : p < 32
    · have HR : Hid (r = true) := Lib.hid (by rw [← hr.out]; simp [h0, h1])
      clear hr
      go_enter Try.func68, Try.ntmps68
      go_wp2
      go_ret
      exact ⟨ret_bool HR.out.symm, rfl⟩
    · have HR : Hid (r = false) := Lib.hid (by rw [← hr.out]; simp [h1])
      clear hr
      go_enter Try.func68, Try.ntmps68
      go_wp2
      go_ret
      exact ⟨ret_bool HR.out.symm, rfl⟩
  · have HR : Hid (r = false) := Lib.hid (by rw [← hr.out]; simp [h0])
    clear hr
    go_enter Try.func68, Try.ntmps68
    go_wp2
    go_ret
    exact ⟨ret_bool HR.out.symm, rfl⟩

theorem isSerial_any (w : World) (p : Int) (r : Bool) (hr : Hid ((decide (1 ≤ p) && decide (p ≤ 4611686018427387903)) = r)) : Calls Try.prog 69 #[.int .i64 p] w fun e w' => e = .returned (.bool r) ∧ w = w' := by
  by_cases h0 : 1 ≤ p
  · by_cases h1 : p ≤ 4611686018427387903
    · have HR : Hid (r = true) := Lib.hid (by rw [← hr.out]; simp [h0, h1])
      clear hr
      go_enter Try.func69, Try.ntmps69
      go_wp2
      go_ret
      exact ⟨ret_bool HR.out.symm, rfl⟩
    · have HR : Hid (r = false) := Lib.hid (by rw [← hr.out]; simp [h1])
      clear hr
      go_enter Try.func69, Try.ntmps69
      go_wp2
      go_ret
      exact ⟨ret_bool HR.out.symm, rfl⟩
  · have HR : Hid (r = false) := Lib.hid (by rw [← hr.out]; simp [h0])
    clear hr
    go_enter Try.func69, Try.ntmps69
    go_wp2
    go_ret
    exact ⟨ret_bool HR.out.symm, rfl⟩

theorem lenOf_any (w : World) (n : Nat) (hn : n ≤ 140737488355328) : Calls Try.prog 70 #[.int .i64 (n : Int)] w fun e w' => e = .returned (.int .i64 ((n + 16 : Nat) : Int)) ∧ w = w' := by
  go_enter Try.func70, Try.ntmps70
  go_wp2
  go_ret
  exact ⟨ret_int (by omega), rfl⟩

/-- The loop that appends a number's bytes. -/
def AppInv (w : World) (B : Nat) (zs : List Nat) (n x size : Nat) (pv iv : Value) (wr : World) : Prop :=
  ∃ (k c : Nat) (A : Option Addr), k ≤ size ∧ iv = .int .i64 ((size : Int) - 1 - (k : Int)) ∧ pv = .slice A (n + k) c ∧ OwnB wr B A (n + k) c (zs ++ (Tk.wordV x size).take k) ∧ Below B w wr

theorem word_take (x size k : Nat) (hk : k < size) : (Tk.wordV x size).take (k + 1) = (Tk.wordV x size).take k ++ [x / 2 ^ (8 * (size - 1 - k)) % 256] := by
  rw [Mth.take_succ_getD _ k (by rw [Tk.wordV_len]; exact hk)]
  congr 2
  induction size generalizing k with
  | zero => omega
  | succ s ih =>
    rw [Tk.wordV_cons]
    cases k with
    | zero => simp [Nat.pow_mul]
    | succ k =>
      have := ih k (by omega)
      simp only [List.getD_cons_succ]
      rw [this]
      congr 3
      omega

set_option maxHeartbeats 1600000 in
theorem appendNumber_any (w : World) (B : Nat) (A : Option Addr) (n c x size : Nat) (zs : List Nat) (h : OwnB w B A n c zs) (hB : B ≤ w.heap.size) (hx : x < 18446744073709551616) (hs1 : 1 ≤ size) (hs : size ≤ 8) (hn : n ≤ 100000000) :
    Calls Try.prog 71 #[.slice A n c, .int .u64 (x : Int), .int .i64 (size : Int)] w fun e w' => ∃ A' c', e = .returned (.slice A' (n + size) c') ∧ OwnB w' B A' (n + size) c' (zs ++ Tk.wordV x size) ∧ Below B w w' := by
  have HO0 := Lib.hid h
  clear h
  go_enter Try.func71, Try.ntmps71
  go_wp2
  go_loopw [0, 7] (fun pv iv wr => AppInv w B zs n x size pv iv wr) (fun _ iv _ => (intOf iv + 1).toNat)
  case atStart => exact ⟨0, c, A, Nat.zero_le _, by go_num, rfl, by simpa using HO0.out, Below.refl _ _⟩
  case round =>
    obtain ⟨k, cc, C, hk, rfl, rfl, hown, hbel⟩ := hrel
    clear HO0
    have hsz := hbel.size
    have HBEL := Lib.hid hbel
    have HOWN := Lib.hid hown
    clear hown hbel
    rcases Nat.lt_or_ge k size with h1 | h1
    · have hst := word_take x size k h1
      have hge : decide ((0 : Int) ≤ (size : Int) - 1 - (k : Int)) = true := by simp; omega
      have hcast : ((x / 2 ^ (8 * (size - 1 - k)) % 256 : Nat) : Int) = (x : Int) / 2 ^ (8 * (size - 1 - k)) % 256 := by push_cast; rfl
      have hd : x / 2 ^ (8 * (size - 1 - k)) % 256 < 256 := Nat.mod_lt _ (by omega)
      have hX : Arg (wr.alloc (.cells #[.int .u8 ((x : Int) / 2 ^ (8 * (size - 1 - k)) % 256)] 5)) (wr.heap.size + 1) (some ⟨wr.heap.size, 0, none⟩) 1 1 [x / 2 ^ (8 * (size - 1 - k)) % 256] := by
        rw [← hcast]
        have := (OwnB.lit wr [x / 2 ^ (8 * (size - 1 - k)) % 256] (by simpa using hd) (n := 1) rfl (by unfold maxLen; omega)).arg
        rw [World.size_alloc] at this
        exact this
      have HX := Lib.hid hX
      have HST := Lib.hid hst
      have HOA := Lib.hid (HOWN.out.below ((Below.refl wr.heap.size wr).alloc (Nat.le_refl _) (.cells #[.int .u8 ((x : Int) / 2 ^ (8 * (size - 1 - k)) % 256)] 5)))
      clear hst hX hcast hd
      go_wp2_with (refine wpList_append_bytes rfl (.tmp 14) (.tmp 20) rfl B C (n + k) cc (zs ++ (Tk.wordV x size).take k) rfl HOA.out (wr.heap.size + 1) (some ⟨wr.heap.size, 0, none⟩) 1 1 [x / 2 ^ (8 * (size - 1 - k)) % 256] rfl HX.out (by omega) (by simp; omega) ?_)
      intro A2 c2 w2 ho2 hb2
      have ho3 : OwnB w2 B A2 (n + k + 1) c2 (zs ++ (Tk.wordV x size).take (k + 1)) := by rw [HST.out, ← List.append_assoc]; simpa only [List.append_assoc] using ho2
      have hb3 := (HBEL.out.alloc (by omega) (.cells #[.int .u8 ((x : Int) / 2 ^ (8 * (size - 1 - k)) % 256)] 5)).trans hb2
      have HO3 := Lib.hid ho3
      have HB3 := Lib.hid hb3
      clear ho2 hb2 ho3 hb3
      go_wp2
      go_roundw
      case rel => exact ⟨k + 1, _, _, by omega, by go_num, rfl, HO3.out, HB3.out⟩
      case measure => simp [intOf]; omega
    · obtain rfl : k = size := by omega
      have hown2 := HOWN.out
      rw [List.take_of_length_le (by rw [Tk.wordV_len]; exact Nat.le_refl _)] at hown2
      have HO2 := Lib.hid hown2
      clear hown2
      go_wp2
      go_ret
      exact ⟨_, _, rfl, HO2.out, HBEL.out⟩
end Go.Proofs.Ytndgladfcogiiaa
