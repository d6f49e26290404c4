/- Contracts: Hex, by the program and by the document. -/
import Derived.Test.YtlkkldegbopnpaaHexA
namespace Go.Proofs.Ytlkkldegbopnpaa
open Go.RowKit
set_option maxRecDepth 100000
set_option linter.unusedVariables false

def HexInv (w : World) (zs : List Nat) (n : Nat) (iv : Value) (wr : World) : Prop :=
  ∃ k : Nat, k ≤ n ∧ iv = .int .i64 (k : Int) ∧ BAt w.heap.size w.heap.size (hexV (zs.take k)) wr ∧ Below w.heap.size w wr

theorem byteCells_map (xs : List Nat) (h : ∀ d ∈ xs, d < 256) : Lib.byteCells (xs.map fun d => UInt8.ofNat d) = xs.map V8 := by
  unfold Lib.byteCells
  rw [List.map_map]
  refine List.map_congr_left fun d hd => ?_
  have := h d hd
  simp [V8]
  omega

theorem digit_at (d : Nat) (h : d < (⟨#[48, 49, 50, 51, 52, 53, 54, 55, 56, 57, 97, 98, 99, 100, 101, 102]⟩ : ByteArray).size) : ((⟨#[48, 49, 50, 51, 52, 53, 54, 55, 56, 57, 97, 98, 99, 100, 101, 102]⟩ : ByteArray)[d]'h).toNat = hexC d := by
  have key : ∀ d : Fin 16, ((⟨#[48, 49, 50, 51, 52, 53, 54, 55, 56, 57, 97, 98, 99, 100, 101, 102]⟩ : ByteArray)[d.val]'(d.isLt)).toNat = hexC d.val := by decide +kernel
  exact key ⟨d, h⟩

set_option maxHeartbeats 1600000 in
theorem hex_any (w : World) (B : Nat) (A : Option Addr) (n c : Nat) (zs : List Nat) (h : Arg w B A n c zs) (hB : B ≤ w.heap.size) (hn : n ≤ 1048576) :
    Calls Try.prog 26 #[.slice A n c] w (ValEnd w (.string (bytesArr (hexV zs)))) := by
  have HA := Lib.hid (h.more hB)
  have HLEN := Lib.hid h.len
  have HBY := Lib.hid h.byte
  have hle := h.le
  have hcap := h.cap
  unfold maxLen at hcap
  clear h
  have hb0 : (w.alloc (.cells #[.pointer none, .slice none 0 0] 105)).heap[w.heap.size]? = some (.cells #[.pointer none, .slice none 0 0] 105 (0, 0)) := heap_alloc_new w _
  have HG := Lib.hid (Try.Builder_Grow_fresh w.heap.size w.heap.size (2 * n) _ (Nat.le_refl _) hb0 (by simp) (by omega))
  have hcast : ((2 * n : Nat) : Int) = 2 * (n : Int) := by omega
  rw [hcast] at HG
  have HB0 := Lib.hid ((Below.refl w.heap.size w).alloc (Nat.le_refl _) (.cells #[.pointer none, .slice none 0 0] 105))
  clear hb0 hcast
  go_enter Try.func26, Try.ntmps26
  go_wp2_with fail
  with_reducible refine HG.out.mono ?_
  rintro e w1 ⟨rfl, ha, hb⟩
  have HAt := Lib.hid ha
  have HB1 := Lib.hid (HB0.out.trans hb)
  clear ha hb HG HB0
  go_wp2
  go_loopw [12] (fun iv wr => HexInv w zs n iv wr) (fun iv _ => n - (intOf iv).toNat)
  case atStart => exact ⟨0, Nat.zero_le _, rfl, HAt.out, HB1.out⟩
  case round =>
    obtain ⟨k, hk, rfl, hat, hbel⟩ := hrel
    clear HAt HB1
    have hsz := hbel.size
    have HAT := Lib.hid hat
    have HBEL := Lib.hid hbel
    have hAk := HA.out.below hbel
    clear hat hbel
    rcases Nat.lt_or_ge k n with h1 | h1
    · obtain ⟨b, off, rfl, _, hc⟩ := hAk.at_ (by omega)
      have hck := hc k h1
      have hd := hAk.lt k
      have hst := hexV_take zs k (by rw [HLEN.out]; exact h1)
      clear hc hAk
      generalize zs.getD k 0 = x at hck hd hst
      have HST := Lib.hid hst
      clear hst
      have hlk := hexV_len (zs.take k)
      rw [List.length_take, HLEN.out, Nat.min_eq_left hk] at hlk
      have HLK := Lib.hid hlk
      have hand : Go.bits BinOp.and IntKind.u8 (x : Int) 15 = ((x % 16 : Nat) : Int) := by
        have := u8_and_nat x 15 (by omega) (by omega)
        rw [show (15 : Nat) = 2 ^ 4 - 1 by rfl, Nat.and_two_pow_sub_one_eq_mod] at this
        exact this
      clear hlk
      go_wp2_with fail
      rw [digit_at]
      with_reducible refine (writeByte_any _ w.heap.size w.heap.size (hexC (x / 16)) _ HAT.out (by rw [HLK.out]; omega) (by omega)).mono ?_
      rintro e w2 ⟨rfl, hat2, hb2⟩
      have HAT2 := Lib.hid hat2
      have hsz2 := hb2.size
      have HB2 := Lib.hid (HBEL.out.trans hb2)
      clear hat2 hb2
      go_wp2_with fail
      rw [digit_at]
      with_reducible refine (writeByte_any _ w.heap.size w.heap.size (hexC (x % 16)) _ HAT2.out (by rw [List.length_append, HLK.out]; simp; omega) (by omega)).mono ?_
      rintro e w3 ⟨rfl, hat3, hb3⟩
      have HAT3 := Lib.hid hat3
      have HB3 := Lib.hid (HB2.out.trans hb3)
      clear hat3 hb3
      go_wp2
      go_roundw
      case rel => exact ⟨k + 1, by omega, by go_num, by rw [HST.out]; simpa only [List.append_assoc, List.singleton_append] using HAT3.out, HB3.out⟩
      case measure => simp [intOf]; omega
    · obtain rfl : k = n := by omega
      have hat2 := HAT.out
      rw [List.take_of_length_le (by rw [HLEN.out]; exact Nat.le_refl _)] at hat2
      have hat3 : Lib.IsBuilder 105 5 w.heap.size w.heap.size (Lib.byteCells ((hexV zs).map fun d => UInt8.ofNat d)) wr := by
        rw [byteCells_map _ (hexV_byte HBY.out)]; exact .inr hat2
      have HS := Lib.hid (Try.Builder_String_any w.heap.size w.heap.size _ wr hat3 hsz)
      clear hat2 hat3
      go_wp2_with fail
      with_reducible refine HS.out.mono ?_
      rintro e w3 ⟨rfl, hb3⟩
      have HB3 := Lib.hid (HBEL.out.trans hb3)
      clear hb3
      go_wp2
      go_ret
      exact ⟨rfl, HB3.out⟩
end Go.Proofs.Ytlkkldegbopnpaa
