/- Mathematics of texts: two characters a byte. -/
import Derived.Test.YtlkkldegbopnpaaBytes
import Derived.Lib.Strings
namespace Go.Proofs.Ytlkkldegbopnpaa
open Go.RowKit

def hexC (n : Nat) : Nat := if n < 10 then 48 + n else 87 + n
def hexV : List Nat → List Nat
  | [] => []
  | x :: l => hexC (x / 16) :: hexC (x % 16) :: hexV l
/-- A character's half byte, or -1. -/
def backV (c : Nat) : Int := if 48 ≤ c ∧ c ≤ 57 then (c : Int) - 48 else if 97 ≤ c ∧ c ≤ 102 then (c : Int) - 87 else -1
/-- The characters of a string. -/
def bl (s : ByteArray) : List Nat := s.data.toList.map UInt8.toNat
def ch (l : List Nat) (i : Nat) : Nat := l.getD i 0
def valN (l : List Nat) (k : Nat) : List Nat := (List.range k).map fun i => (16 * backV (ch l (2 * i)) + backV (ch l (2 * i + 1))).toNat
def goodTo (l : List Nat) (k : Nat) : Prop := ∀ i, i < k → 0 ≤ backV (ch l (2 * i)) ∧ 0 ≤ backV (ch l (2 * i + 1))

theorem hexC_lt {n : Nat} (h : n < 16) : hexC n < 256 := by unfold hexC; split <;> omega
theorem backV_bd (c : Nat) : -1 ≤ backV c ∧ backV c ≤ 15 := by unfold backV; split <;> (try split) <;> omega
theorem back_hexC {n : Nat} (h : n < 16) : backV (hexC n) = (n : Int) := by unfold backV hexC; split <;> split <;> (try split) <;> omega
theorem hexC_back {c : Nat} (h : 0 ≤ backV c) : hexC (backV c).toNat = c := by
  by_cases h1 : 48 ≤ c ∧ c ≤ 57
  · have e : backV c = (c : Int) - 48 := by unfold backV; rw [if_pos h1]
    rw [e]; unfold hexC; rw [if_pos (by omega)]; omega
  · by_cases h2 : 97 ≤ c ∧ c ≤ 102
    · have e : backV c = (c : Int) - 87 := by unfold backV; rw [if_neg h1, if_pos h2]
      rw [e]; unfold hexC; rw [if_neg (by omega)]; omega
    · have e : backV c = -1 := by unfold backV; rw [if_neg h1, if_neg h2]
      rw [e] at h; omega
theorem hexV_len (l : List Nat) : (hexV l).length = 2 * l.length := by
  induction l with
  | nil => rfl
  | cons x l ih => simp [hexV, ih]; omega
theorem hexV_append (a b : List Nat) : hexV (a ++ b) = hexV a ++ hexV b := by
  induction a with
  | nil => rfl
  | cons x a ih => simp [hexV, ih]
theorem hexV_byte {l : List Nat} (h : ∀ d ∈ l, d < 256) : ∀ d ∈ hexV l, d < 256 := by
  induction l with
  | nil => simp [hexV]
  | cons x l ih =>
    intro d hd
    have hx := h x (by simp)
    simp only [hexV, List.mem_cons] at hd
    rcases hd with rfl | rfl | hd
    · exact hexC_lt (by omega)
    · exact hexC_lt (by omega)
    · exact ih (fun d hd => h d (by simp [hd])) d hd
theorem bl_len (s : ByteArray) : (bl s).length = s.size := by unfold bl; rw [List.length_map, Array.length_toList]; rfl
theorem bl_byte (s : ByteArray) : ∀ d ∈ bl s, d < 256 := by
  intro d hd
  obtain ⟨u, _, rfl⟩ := List.mem_map.1 hd
  exact u.toNat_lt
theorem ch_bl (s : ByteArray) (i : Nat) (h : i < s.size) : s[i].toNat = ch (bl s) i := by
  unfold ch bl
  rw [List.getD_eq_getElem?_getD, List.getElem?_map, List.getElem?_eq_getElem (by rw [Array.length_toList]; exact h)]
  rfl
theorem nat_u8 {d : Nat} (h : d < 256) : (UInt8.ofNat d).toNat = d := by rw [UInt8.toNat_ofNat']; exact Nat.mod_eq_of_lt h
theorem map_nat_u8 : ∀ zs : List Nat, (∀ d ∈ zs, d < 256) → (zs.map fun d => UInt8.ofNat d).map UInt8.toNat = zs
  | [], _ => rfl
  | x :: zs, h => by
    rw [List.map_cons, List.map_cons, nat_u8 (h x (by simp)), map_nat_u8 zs (fun d hd => h d (by simp [hd]))]
theorem map_u8_nat : ∀ l : List UInt8, (l.map UInt8.toNat).map (fun d => UInt8.ofNat d) = l
  | [] => rfl
  | x :: l => by
    rw [List.map_cons, List.map_cons, map_u8_nat l, UInt8.ofNat_toNat]
theorem bl_bytesArr {zs : List Nat} (h : ∀ d ∈ zs, d < 256) : bl (bytesArr zs) = zs := map_nat_u8 zs h
theorem bytesArr_bl (s : ByteArray) : bytesArr (bl s) = s := by
  obtain ⟨⟨l⟩⟩ := s
  unfold bl bytesArr
  show (⟨((l.map UInt8.toNat).map (fun d => UInt8.ofNat d)).toArray⟩ : ByteArray) = ⟨⟨l⟩⟩
  rw [map_u8_nat]
theorem valN_len (l : List Nat) (k : Nat) : (valN l k).length = k := by simp [valN]
theorem valN_succ (l : List Nat) (k : Nat) : valN l (k + 1) = valN l k ++ [(16 * backV (ch l (2 * k)) + backV (ch l (2 * k + 1))).toNat] := by
  unfold valN; rw [List.range_succ, List.map_append]; rfl
theorem valN_byte (l : List Nat) (k : Nat) : ∀ d ∈ valN l k, d < 256 := by
  intro d hd
  obtain ⟨i, _, rfl⟩ := List.mem_map.1 hd
  have h1 := backV_bd (ch l (2 * i))
  have h2 := backV_bd (ch l (2 * i + 1))
  omega
theorem hex_valN (l : List Nat) (k : Nat) (hk : 2 * k ≤ l.length) (hg : goodTo l k) : hexV (valN l k) = l.take (2 * k) := by
  induction k with
  | zero => rfl
  | succ k ih =>
    have h := ih (by omega) (fun i hi => hg i (by omega))
    obtain ⟨g1, g2⟩ := hg k (by omega)
    have b1 := backV_bd (ch l (2 * k))
    have b2 := backV_bd (ch l (2 * k + 1))
    rw [valN_succ, hexV_append, h]
    have e1 : (16 * backV (ch l (2 * k)) + backV (ch l (2 * k + 1))).toNat / 16 = (backV (ch l (2 * k))).toNat := by omega
    have e2 : (16 * backV (ch l (2 * k)) + backV (ch l (2 * k + 1))).toNat % 16 = (backV (ch l (2 * k + 1))).toNat := by omega
    simp only [hexV, e1, e2, hexC_back g1, hexC_back g2]
    rw [show 2 * (k + 1) = 2 * k + 1 + 1 by omega, Mth.take_succ_getD l (2 * k + 1) (by omega), Mth.take_succ_getD l (2 * k) (by omega)]
    simp [ch]
theorem ch_hexV (zs : List Nat) (i : Nat) (hi : i < zs.length) : ch (hexV zs) (2 * i) = hexC (zs.getD i 0 / 16) ∧ ch (hexV zs) (2 * i + 1) = hexC (zs.getD i 0 % 16) := by
  induction zs generalizing i with
  | nil => simp at hi
  | cons x l ih =>
    cases i with
    | zero => exact ⟨rfl, rfl⟩
    | succ i =>
      have := ih i (by simpa using hi)
      have e : 2 * (i + 1) = 2 * i + 1 + 1 := by omega
      have e2 : 2 * (i + 1) + 1 = 2 * i + 1 + 1 + 1 := by omega
      simp only [ch, hexV, e, List.getD_cons_succ] at this ⊢
      exact this
theorem good_hexV {zs : List Nat} (h : ∀ d ∈ zs, d < 256) : goodTo (hexV zs) zs.length := by
  intro i hi
  obtain ⟨h1, h2⟩ := ch_hexV zs i hi
  have hd : zs.getD i 0 < 256 := by
    rw [List.getD_eq_getElem?_getD, List.getElem?_eq_getElem hi]; exact h _ (List.getElem_mem hi)
  rw [h1, h2, back_hexC (by omega), back_hexC (by omega)]
  omega
theorem valN_hexV {zs : List Nat} (h : ∀ d ∈ zs, d < 256) : valN (hexV zs) zs.length = zs := by
  have key : ∀ k, k ≤ zs.length → valN (hexV zs) k = zs.take k := by
    intro k
    induction k with
    | zero => intro _; rfl
    | succ k ih =>
      intro hk
      obtain ⟨h1, h2⟩ := ch_hexV zs k (by omega)
      have hd : zs.getD k 0 < 256 := by
        rw [List.getD_eq_getElem?_getD, List.getElem?_eq_getElem (by omega)]; exact h _ (List.getElem_mem _)
      rw [valN_succ, ih (by omega), h1, h2, back_hexC (by omega), back_hexC (by omega), Mth.take_succ_getD zs k (by omega)]
      congr 2
      omega
  rw [key _ (Nat.le_refl _), List.take_length]
theorem index_back : ∀ c : Fin 256, Lib.indexByte [48, 49, 50, 51, 52, 53, 54, 55, 56, 57, 97, 98, 99, 100, 101, 102] (UInt8.ofNat c.val) = backV c.val := by decide +kernel
theorem hexV_take (l : List Nat) (k : Nat) (hk : k < l.length) : hexV (l.take (k + 1)) = hexV (l.take k) ++ [hexC (l.getD k 0 / 16), hexC (l.getD k 0 % 16)] := by
  rw [Mth.take_succ_getD l k hk, hexV_append]; rfl
end Go.Proofs.Ytlkkldegbopnpaa
