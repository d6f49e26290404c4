/- Contracts: Word, Encode of the document, Encode of the program. -/
import Derived.Test.YtndgladfcogiiaaTokA
import Derived.Test.YtndgladfcogiiaaAwake2
import Derived.Test.YtndgladfcogiiaaBlk
import Derived.Outline
namespace Go.Proofs.Ytndgladfcogiiaa
open Go.RowKit
set_option maxRecDepth 100000
set_option linter.unusedVariables false

/-- A token's bytes ahead of the sum; all of them. -/
def tokH (p : Nat) (zs : List Nat) (s : Nat) : List Nat := [83, 71, p, zs.length] ++ zs ++ Tk.wordV s 8
def tokV (p : Nat) (zs : List Nat) (s : Nat) : List Nat := tokH p zs s ++ Tk.wordV (sumV (tokH p zs s)) 4
def encE (p : Int) (n : Nat) (s : Int) : Int := if (decide (0 ≤ p) && decide (p < 32)) && (decide (1 ≤ s) && decide (s ≤ 4611686018427387903)) then (if 255 < n then 2 else 0) else 1

theorem BlkL.keep {w w' : World} {b B : Nat} {xs : List Value} (h : BlkL w b xs) (hb : Below B w w') (hlt : b < B) : BlkL w' b xs :=
  ⟨Nat.lt_of_lt_of_le h.lt hb.size, fun i v hv => (hb.cell (p := ⟨b, i, none⟩) hlt).trans (h.cell i v hv), fun i hi => (hb.frozen (p := ⟨b, i, none⟩) hlt).trans (h.froz i hi)⟩
theorem Arg.keep {w w' : World} {B B' n c : Nat} {A : Option Addr} {zs : List Nat} (h : Arg w B A n c zs) (hb : Below B' w w') (hlt : B ≤ B') : Arg w' B A n c zs :=
  ⟨h.len, h.le, h.cap, h.byte, h.none_, fun hn => by
    obtain ⟨b, off, e, hB, hc⟩ := h.at_ hn
    exact ⟨b, off, e, hB, fun k hk => (hb.cell (p := ⟨b, off + k, none⟩) (by show b < B'; omega)).trans (hc k hk)⟩⟩

/-- The document's Word: what is written so far. -/
def WordInv (w : World) (g x size : Nat) (xv iv : Value) (wr : World) : Prop :=
  ∃ (k : Nat) (xs : List Nat), k ≤ size ∧ iv = .int .i64 ((size : Int) - 1 - (k : Int)) ∧ xv = .int .u64 ((x / 256 ^ k : Nat) : Int) ∧ xs.length = size ∧ (∀ d ∈ xs, d < 256) ∧
    wr.heap[g]? = some (.cells (xs.map V8).toArray 5 (0, 0)) ∧ xs.drop (size - k) = (Tk.wordV x size).drop (size - k) ∧ Below g w wr

theorem word_drop (x size k : Nat) (hk : k < size) : (Tk.wordV x size).drop (size - (k + 1)) = (x / 256 ^ k % 256) :: (Tk.wordV x size).drop (size - k) := by
  have h1 := word_take x size (size - (k + 1)) (by omega)
  have e : size - 1 - (size - (k + 1)) = k := by omega
  rw [e] at h1
  have hl := Tk.wordV_len x size
  rw [show size - (k + 1) + 1 = size - k by omega] at h1
  have h2 : (Tk.wordV x size).drop (size - (k + 1)) = ((Tk.wordV x size).take (size - k)).drop (size - (k + 1)) ++ (Tk.wordV x size).drop (size - k) := by
    conv => lhs; rw [← List.take_append_drop (size - k) (Tk.wordV x size)]
    rw [List.drop_append_of_le_length (by simp [hl]; omega)]
  rw [h2, h1, List.drop_left' (by simp [hl])]
  simp [Nat.pow_mul]

theorem drop_set_low (xs : List Nat) (j v : Nat) (hj : j < xs.length) : (xs.set j v).drop j = v :: xs.drop (j + 1) := by
  rw [List.drop_eq_getElem_cons (by simpa using hj)]
  simp [List.drop_set]

set_option maxHeartbeats 1600000 in
theorem word7_any (w : World) (x size : Nat) (hx : x < 18446744073709551616) (hs1 : 1 ≤ size) (hs : size ≤ 8) :
    Calls Try.prog 84 #[.int .u64 (x : Int), .int .i64 (size : Int)] w fun e w' => ∃ A' c', e = .returned (.slice A' size c') ∧ OwnB w' w.heap.size A' size c' (Tk.wordV x size) ∧ Below w.heap.size w w' := by
  obtain ⟨i0, hi, hz0, hz1, hz2⟩ := info_parts u8_info
  go_enter Try.func84, Try.ntmps84
  go_wp2_with (refine wpList_make_full _ rfl (.tmp 7) (.tmp 7) _ rfl w.heap.size 5 i0 (.int .u8 0) 1 Try.underlying22 hi hz0 hz1 .i64 .i64 _ _ size rfl rfl (by omega) (by omega) (by rw [hz2]; omega) (by unfold maxLen; omega) (Nat.le_refl _) ?_)
  intro w1 hown1 hgrow1
  have hblk := made_block hown1
  have hb1 : Below w.heap.size w w1 := (Below.refl _ _).grown hgrow1 (Nat.le_refl _) (by simp)
  have HBLK := Lib.hid hblk
  have HB1 := Lib.hid hb1
  clear hblk hb1 hown1 hgrow1
  go_wp2
  go_loopw [0, 6] (fun xv iv wr => WordInv w w.heap.size x size xv iv wr) (fun _ iv _ => (intOf iv + 1).toNat)
  case atStart => exact ⟨0, _, Nat.zero_le _, by go_num, by simp, by simp, by simp, HBLK.out, by simp [Tk.wordV_len], HB1.out⟩
  case round =>
    obtain ⟨k, xs, hk, rfl, rfl, hl, hby, hblk, hdr, hbel⟩ := hrel
    clear HBLK HB1
    have hsz := hbel.size
    rcases Nat.lt_or_ge k size with h1 | h1
    · have hge : decide ((0 : Int) ≤ (size : Int) - 1 - (k : Int)) = true := by simp; omega
      have hci := block_cell hblk (size - 1 - k) (by omega)
      have hset := block_set hblk (size - 1 - k) (x / 256 ^ k % 256)
      have hdr2 : (xs.set (size - 1 - k) (x / 256 ^ k % 256)).drop (size - (k + 1)) = (Tk.wordV x size).drop (size - (k + 1)) := by
        rw [word_drop x size k h1, ← hdr, show size - (k + 1) = size - 1 - k by omega, drop_set_low _ _ _ (by omega), show size - 1 - k + 1 = size - k by omega]
      have hby2 : ∀ d ∈ xs.set (size - 1 - k) (x / 256 ^ k % 256), d < 256 := by
        intro d hd
        rcases List.mem_or_eq_of_mem_set hd with h | h
        · exact hby d h
        · rw [h]; omega
      have hdd : x / 256 ^ (k + 1) = x / 256 ^ k / 256 := by rw [Nat.div_div_eq_div_mul, Nat.pow_succ]
      have hbs := hbel.setCell (p := ⟨w.heap.size, size - 1 - k, none⟩) (Nat.le_refl _) (V8 (x / 256 ^ k % 256))
      have hxk : x / 256 ^ k < 18446744073709551616 := Nat.lt_of_le_of_lt (Nat.div_le_self _ _) hx
      have hfi : wr.frozen? ⟨w.heap.size, size - 1 - k, none⟩ = false := frozen_of_row wr _ _ _ _ hblk
      have HSET := Lib.hid hset
      have HDR2 := Lib.hid hdr2
      have HBY2 := Lib.hid hby2
      have HDD := Lib.hid hdd
      have HBS := Lib.hid hbs
      clear hset hdr2 hby2 hdd hbs hdr hby hblk hbel
      generalize hy : x / 256 ^ k = y at *
      have hcast : ((y % 256 : Nat) : Int) = (y : Int) % 256 := by omega
      have hcast2 : ((y / 256 : Nat) : Int) = (y : Int) / 256 := by omega
      have HC := Lib.hid hcast
      have HC2 := Lib.hid hcast2
      have HYY := Lib.hid hy
      clear hcast hcast2 hy
      go_wp2
      go_roundw
      case rel => exact ⟨k + 1, _, by omega, by go_num, by rw [HDD.out, HC2.out], by simp [hl], HBY2.out, by rw [← HC.out]; exact HSET.out, HDR2.out, by rw [← HC.out]; exact HBS.out⟩
      case measure => simp [intOf]; omega
    · obtain rfl : k = size := by omega
      have hw : xs = Tk.wordV x k := by simpa using hdr
      have ho := OwnB.of_block hblk (Nat.le_refl _) hl (by unfold maxLen; omega) hby
      rw [hw] at ho
      have HO := Lib.hid ho
      have HBEL := Lib.hid hbel
      clear ho hw hdr hby hblk hbel
      go_wp2
      go_ret
      exact ⟨_, _, rfl, HO.out, HBEL.out⟩
end Go.Proofs.Ytndgladfcogiiaa
