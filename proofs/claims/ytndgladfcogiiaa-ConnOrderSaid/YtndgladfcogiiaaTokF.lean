/- Contracts: number, Number, bytes.Clone, bytes.Equal. -/
import Derived.Test.YtndgladfcogiiaaTokE
import Derived.Laws.BytesArg
import Derived.Lib.Bytes
import Derived.WalkSpells
namespace Go.Proofs.Ytndgladfcogiiaa
open Go.RowKit
set_option maxRecDepth 100000
set_option linter.unusedVariables false

theorem or_low {a b : Nat} (h : b < 256) : (a * 256) ||| b = a * 256 + b := by
  have h2 := Nat.shiftLeft_add_eq_or_of_lt (i := 8) (b := b) (by omega) a
  rw [Nat.shiftLeft_eq] at h2
  exact h2.symm

theorem numV_take (l : List Nat) (k : Nat) (hk : k < l.length) : Tk.numV (l.take (k + 1)) = Tk.numV (l.take k) * 256 + l.getD k 0 := by
  rw [Mth.take_succ_getD l k hk, Tk.numV_snoc]

theorem numV_take_lt {l : List Nat} (hb : ∀ d ∈ l, d < 256) (hl : l.length ≤ 8) (k : Nat) (hk : k < l.length) : Tk.numV (l.take k) < 72057594037927936 := by
  have h1 := Tk.numV_lt (l := l.take k) (fun d hd => hb d (List.mem_of_mem_take hd))
  have h2 : (l.take k).length ≤ 7 := by simp; omega
  exact Nat.lt_of_lt_of_le h1 (Nat.le_trans (Nat.pow_le_pow_right (by omega) h2) (by decide))

def NumInv (w : World) (zs : List Nat) (n : Nat) (hv iv : Value) : Prop :=
  ∃ k h : Nat, k ≤ n ∧ iv = .int .i64 (k : Int) ∧ hv = .int .u64 (h : Int) ∧ h = Tk.numV (zs.take k) ∧ w = w

set_option maxHeartbeats 800000 in
theorem number_any (w : World) (B : Nat) (A : Option Addr) (n c : Nat) (zs : List Nat) (hn : n ≤ 8) (h : Arg w B A n c zs) :
    Calls Try.prog 119 #[.slice A n c] w fun e w' => e = .returned (.int .u64 (Tk.numV zs : Nat)) ∧ w = w' := by
  have hlen := h.len
  have hle := h.le
  have hby := h.byte
  have HLEN := Lib.hid hlen
  have HBY := Lib.hid hby
  clear hlen hby
  go_enter Try.func119, Try.ntmps119
  go_wp2
  go_loop [3, 8] (fun hv iv => NumInv w zs n hv iv) (fun _ iv => n - (intOf iv).toNat)
  case atStart => exact ⟨0, 0, Nat.zero_le _, rfl, rfl, rfl, rfl⟩
  case round =>
    obtain ⟨k, hv, hk, rfl, rfl, he, _⟩ := hrel
    have HE := Lib.hid he
    clear he
    rcases Nat.lt_or_ge k n with h1 | h1
    · obtain ⟨b, off, rfl, _, hc⟩ := h.at_ (by omega)
      have hck := hc k h1
      have hd := h.lt k
      have hs := numV_take zs k (by rw [HLEN.out]; exact h1)
      have hlt := numV_take_lt HBY.out (by rw [HLEN.out]; exact hn) k (by rw [HLEN.out]; exact h1)
      rw [← HE.out] at hs hlt
      clear hc
      generalize zs.getD k 0 = d at hck hd hs
      have hor : Go.bits BinOp.or IntKind.u64 ((hv : Int) * 256) (d : Int) = ((hv * 256 + d : Nat) : Int) := by
        have := bits_or_u64_nat (hv * 256) d (by omega) (by omega)
        rw [or_low hd] at this
        simpa using this
      have HS := Lib.hid hs
      clear hs
      go_wp2
      go_round
      case rel => exact ⟨k + 1, hv * 256 + d, by omega, by go_num, by first | rfl | go_num, HS.out.symm, rfl⟩
      case measure => simp [intOf]; omega
    · obtain rfl : k = n := by omega
      go_wp2
      go_ret
      exact ⟨ret_u64 (by rw [HE.out, List.take_of_length_le (by rw [HLEN.out]; exact Nat.le_refl _)]), rfl⟩

set_option maxHeartbeats 800000 in
theorem number7_any (w : World) (B : Nat) (A : Option Addr) (n c : Nat) (zs : List Nat) (hn : n ≤ 8) (h : Arg w B A n c zs) :
    Calls Try.prog 76 #[.slice A n c] w fun e w' => e = .returned (.int .u64 (Tk.numV zs : Nat)) ∧ w = w' := by
  have hlen := h.len
  have hle := h.le
  have hby := h.byte
  have HLEN := Lib.hid hlen
  have HBY := Lib.hid hby
  clear hlen hby
  go_enter Try.func76, Try.ntmps76
  go_wp2
  go_loop [3, 7] (fun hv iv => NumInv w zs n hv iv) (fun _ iv => n - (intOf iv).toNat)
  case atStart => exact ⟨0, 0, Nat.zero_le _, rfl, rfl, rfl, rfl⟩
  case round =>
    obtain ⟨k, hv, hk, rfl, rfl, he, _⟩ := hrel
    have HE := Lib.hid he
    clear he
    rcases Nat.lt_or_ge k n with h1 | h1
    · obtain ⟨b, off, rfl, _, hc⟩ := h.at_ (by omega)
      have hck := hc k h1
      have hd := h.lt k
      have hs := numV_take zs k (by rw [HLEN.out]; exact h1)
      have hlt := numV_take_lt HBY.out (by rw [HLEN.out]; exact hn) k (by rw [HLEN.out]; exact h1)
      rw [← HE.out] at hs hlt
      clear hc
      generalize zs.getD k 0 = d at hck hd hs
      have HS := Lib.hid hs
      clear hs
      go_wp2
      go_round
      case rel => exact ⟨k + 1, hv * 256 + d, by omega, by go_num, by first | rfl | go_num, HS.out.symm, rfl⟩
      case measure => simp [intOf]; omega
    · obtain rfl : k = n := by omega
      go_wp2
      go_ret
      exact ⟨ret_u64 (by rw [HE.out, List.take_of_length_le (by rw [HLEN.out]; exact Nat.le_refl _)]), rfl⟩

set_option maxHeartbeats 400000 in
theorem clone_some (w : World) (B : Nat) (a : Addr) (n c : Nat) (zs : List Nat) (h : Arg w B (some a) n c zs) (hB : B ≤ w.heap.size) (hn : n ≤ 140737488355328) :
    Calls Try.prog 118 #[.slice (some a) n c] w fun e w' => ∃ A' c', e = .returned (.slice A' n c') ∧ OwnB w' w.heap.size A' n c' zs ∧ Below w.heap.size w w' := by
  have hown0 : OwnB (w.alloc (.cells #[] 5)) w.heap.size (some ⟨w.heap.size, 0, none⟩) 0 0 [] := OwnB.lit w [] (by simp) rfl (by unfold maxLen; omega)
  have harg := h.more hB
  have HA := Lib.hid (harg.below ((Below.refl _ w).alloc (Nat.le_refl _) (.cells #[] 5)))
  have HO := Lib.hid hown0
  clear hown0 harg h
  have hnil := fun w : World => Lib.run_eql_slice_nil (P := Try.prog) w 22 5 (some a) n c 0 0 Try.underlying22
  go_enter Try.func118, Try.ntmps118
  go_wp2_with (refine wpList_append_bytes rfl (.tmp 5) (.tmp 6) rfl w.heap.size (some ⟨w.heap.size, 0, none⟩) 0 0 [] rfl HO.out w.heap.size (some a) n c zs rfl HA.out (by omega) (by simp) ?_)
  intro A' c' w' ho hb
  have HO2 := Lib.hid ho
  have HB2 := Lib.hid (((Below.refl _ w).alloc (Nat.le_refl _) (.cells #[] 5)).trans hb)
  clear ho hb
  go_wp2
  go_ret
  exact ⟨A', c', rfl, by simpa using HO2.out, HB2.out⟩

theorem conv_arg {w : World} {B n c : Nat} {A : Option Addr} {zs : List Nat} (h : Arg w B A n c zs) (hn : 0 < n) :
    (convert 22 9 (.slice A n c)).run Try.prog w = .ok (.string (strOfNums (zs.map Int.ofNat))) w := by
  obtain ⟨b, off, rfl, _, hc⟩ := h.at_ hn
  refine run_convert_bytes_arg w 22 5 Try.underlying22 Try.underlying5 b off n c _ (by simp [h.len]) (fun i hi => ?_) 9 Try.underlying9
  rw [hc i hi]
  simp [List.getD_eq_getElem?_getD, h.len, hi]

theorem strs_eq (xs ys : List Nat) (hx : ∀ d ∈ xs, d < 256) (hy : ∀ d ∈ ys, d < 256) : ((strOfNums (xs.map Int.ofNat)).toList == (strOfNums (ys.map Int.ofNat)).toList) = decide (xs = ys) := by
  rw [Lib.strOfNums_toList, Lib.strOfNums_toList]
  by_cases h : xs = ys
  · subst h; simp
  · rw [decide_eq_false h, beq_eq_false_iff_ne]
    intro e
    apply h
    have key : ∀ l : List Nat, (∀ d ∈ l, d < 256) → (Lib.bytesOf (l.map Int.ofNat)).map UInt8.toNat = l := by
      intro l hl
      unfold Lib.bytesOf
      rw [List.map_map, List.map_map]
      conv => rhs; rw [← List.map_id l]
      refine List.map_congr_left fun d hd => ?_
      simp
      exact hl d hd
    rw [← key xs hx, ← key ys hy, e]

set_option maxHeartbeats 400000 in
theorem equal_any (w : World) (B B' : Nat) (A A' : Option Addr) (n c m d : Nat) (xs ys : List Nat) (r : Bool) (hr : decide (xs = ys) = r) (h : Arg w B A n c xs) (h' : Arg w B' A' m d ys) (hn : 0 < n) (hm : 0 < m) :
    Calls Try.prog 75 #[.slice A n c, .slice A' m d] w fun e w' => e = .returned (.bool r) ∧ w = w' := by
  have h1 := conv_arg h hn
  have h2 := conv_arg h' hm
  have HS := Lib.hid (strs_eq xs ys h.byte h'.byte)
  have HR := Lib.hid hr
  clear h h' hr
  go_enter Try.func75, Try.ntmps75
  go_wp2
  go_ret
  exact ⟨ret_bool (by rw [HS.out, HR.out]), rfl⟩
end Go.Proofs.Ytndgladfcogiiaa
