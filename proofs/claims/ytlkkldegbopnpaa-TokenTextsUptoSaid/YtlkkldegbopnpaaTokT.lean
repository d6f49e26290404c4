/- The law TokenTexts: its walk. -/
import Derived.Test.YtlkkldegbopnpaaTokW
namespace Go.Proofs.Ytlkkldegbopnpaa
open Go.RowKit
set_option maxRecDepth 100000
set_option linter.unusedVariables false

/-- Hex's text is read as the bytes. -/
theorem unhex_hex (w : World) (zs : List Nat) (n : Nat) (hl : zs.length = n) (hby : ∀ d ∈ zs, d < 256) (hn : n ≤ 32768) :
    Calls Try.prog 24 #[.string (bytesArr (hexV zs))] w (NewB w zs n) := by
  have hs : (bytesArr (hexV zs)).size = 2 * n := by rw [← bl_len, bl_bytesArr (hexV_byte hby), hexV_len, hl]
  refine (unhex_even w _ n hs hn).mono fun e w' he => ?_
  rw [bl_bytesArr (hexV_byte hby)] at he
  have := he.1 (by rw [← hl]; exact good_hexV hby)
  rw [← hl, valN_hexV hby] at this
  rw [← hl]
  exact this
theorem unhex_hex_long (w : World) (zs : List Nat) (n : Nat) (hl : zs.length = n) (hby : ∀ d ∈ zs, d < 256) (hn : 32768 < n) :
    Calls Try.prog 24 #[.string (bytesArr (hexV zs))] w (ValEnd w (.tuple #[.slice none 0 0, .int .i64 2])) := by
  have hs : (bytesArr (hexV zs)).size = 2 * n := by rw [← bl_len, bl_bytesArr (hexV_byte hby), hexV_len, hl]
  exact unhex_long w _ (by omega)

set_option maxHeartbeats 1600000 in
/-- A text that is none. -/
theorem tokenTexts_err (A : Option Addr) (n c : Nat) (zs : List Nat) (s : ByteArray) (w : World) (er : Int) (h : Arg w w.heap.size A n c zs) (hn : n ≤ 1048576) (her : (er == 0) = false)
    (HU : Hid (∀ w, Calls Try.prog 24 #[.string s] w (ValEnd w (.tuple #[.slice none 0 0, .int .i64 er]))))
    (HD : Hid (∀ w, Calls Try.prog 25 #[.string s] w (ValEnd w (.tuple #[.slice none 0 0, .int .i64 er])))) :
    Calls Try.prog 5 #[.slice A n c, .string s] w (ValEnd w (.bool true)) := by
  have her2 : (er != er) = false := by simp
  have HA := Lib.hid h
  have HL := Lib.hid h.len
  have HBY := Lib.hid h.byte
  have hle := h.le
  clear h
  go_enter Try.func5, Try.ntmps5
  go_wp2_with fail
  with_reducible refine (HU.out _).mono ?_
  rintro e w1 ⟨rfl, hb⟩
  have HB1 := Lib.hid hb
  have hz1 := hb.size
  clear hb
  go_wp2_with fail
  with_reducible refine (HD.out _).mono ?_
  rintro e w2 ⟨rfl, hb⟩
  have HB2 := Lib.hid (HB1.out.trans (hb.mono hz1))
  have hz2 := HB2.out.size
  clear hb HB1
  go_wp2_with fail
  with_reducible refine (hex_any _ _ A n c zs (HA.out.below HB2.out) hz2 hn).mono ?_
  rintro e w3 ⟨rfl, hb⟩
  have HB3 := Lib.hid (HB2.out.trans (hb.mono hz2))
  have hz3 := HB3.out.size
  clear hb HB2
  go_wp2_with fail
  with_reducible refine (awake7_any _).mono ?_
  rintro e w4 ⟨rfl, hb⟩
  have HB4 := Lib.hid (HB3.out.trans (hb.mono hz3))
  have hz4 := HB4.out.size
  clear hb HB3
  go_wp2_with fail
  with_reducible refine (same_any _ 0 0 none none 0 0 0 0 [] [] true rfl (Arg.nil _ _) (Arg.nil _ _)).mono ?_
  rintro e w5 ⟨rfl, t, rfl⟩
  have HB5 := Lib.hid (below_drewN HB4.out t)
  have hz5 := HB5.out.size
  go_wp2_with fail
  with_reducible refine (hex7_any _ _ A n c zs (HA.out.below HB5.out) hz5 hn).mono ?_
  rintro e w6 ⟨rfl, hb⟩
  have HB6 := Lib.hid (HB5.out.trans (hb.mono hz5))
  have hz6 := HB6.out.size
  clear hb HB5 HB4
  rcases Nat.lt_or_ge 32768 n with h1 | h1
  · go_wp2_with fail
    with_reducible refine (unhex_hex_long _ zs n HL.out HBY.out h1).mono ?_
    rintro e w7 ⟨rfl, hb⟩
    have HB7 := Lib.hid (HB6.out.trans (hb.mono hz6))
    clear hb
    go_wp2
    go_ret
    exact ⟨rfl, HB7.out⟩
  · go_wp2_with fail
    with_reducible refine (unhex_hex _ zs n HL.out HBY.out h1).mono ?_
    rintro e w7 ⟨U, uc, rfl, hu, hb⟩
    have HB7 := Lib.hid (HB6.out.trans (hb.mono hz6))
    have HU7 := Lib.hid hu.arg
    clear hb hu
    go_wp2_with fail
    with_reducible refine (same_any _ _ _ U A n uc n c zs zs true (by simp) HU7.out (HA.out.below HB7.out)).mono ?_
    rintro e w8 ⟨rfl, t8, rfl⟩
    go_wp2
    go_ret
    exact ⟨rfl, below_drewN HB7.out _⟩
set_option maxHeartbeats 1600000 in
/-- A text that is one. -/
theorem tokenTexts_good (A : Option Addr) (n c : Nat) (zs : List Nat) (s : ByteArray) (w : World) (m : Nat) (h : Arg w w.heap.size A n c zs) (hn : n ≤ 1048576) (hm : m ≤ 32768)
    (HU : Hid (∀ w, Calls Try.prog 24 #[.string s] w (NewB w (valN (bl s) m) m)))
    (HD : Hid (∀ w, Calls Try.prog 25 #[.string s] w (NewB w (valN (bl s) m) m)))
    (HX : Hid (bytesArr (hexV (valN (bl s) m)) = s)) :
    Calls Try.prog 5 #[.slice A n c, .string s] w (ValEnd w (.bool true)) := by
  have HA := Lib.hid h
  have HL := Lib.hid h.len
  have HBY := Lib.hid h.byte
  have hle := h.le
  clear h
  go_enter Try.func5, Try.ntmps5
  go_wp2_with fail
  with_reducible refine (HU.out _).mono ?_
  rintro e w1 ⟨Q, qc, rfl, hq, hb⟩
  have HQ1 := Lib.hid hq.arg
  clear hq
  have HB1 := Lib.hid hb
  have hz1 := hb.size
  clear hb
  go_wp2_with fail
  with_reducible refine (HD.out _).mono ?_
  rintro e w2 ⟨R, rc, rfl, hr, hb⟩
  have HQ2 := Lib.hid (HQ1.out.below hb)
  have HR2 := Lib.hid hr.arg
  have hz12 := hb.size
  clear hr HQ1
  have HB2 := Lib.hid (HB1.out.trans (hb.mono hz1))
  have hz2 := HB2.out.size
  clear hb HB1
  go_wp2_with fail
  with_reducible refine (hex_any _ _ A n c zs (HA.out.below HB2.out) hz2 hn).mono ?_
  rintro e w3 ⟨rfl, hb⟩
  have HQ3 := Lib.hid (HQ2.out.below (hb.mono hz12))
  have HR3 := Lib.hid (HR2.out.below hb)
  have hz23 := hb.size
  clear HQ2 HR2
  have HB3 := Lib.hid (HB2.out.trans (hb.mono hz2))
  have hz3 := HB3.out.size
  clear hb HB2
  go_wp2_with fail
  with_reducible refine (awake7_any _).mono ?_
  rintro e w4 ⟨rfl, hb⟩
  have HQ4 := Lib.hid (HQ3.out.below (hb.mono (by omega)))
  have HR4 := Lib.hid (HR3.out.below (hb.mono hz23))
  have hz34 := hb.size
  clear HQ3 HR3
  have HB4 := Lib.hid (HB3.out.trans (hb.mono hz3))
  have hz4 := HB4.out.size
  clear hb HB3
  go_wp2_with fail
  with_reducible refine (same_any _ _ _ Q R m qc m rc _ _ true (by simp) HQ4.out HR4.out).mono ?_
  rintro e w5 ⟨rfl, t, rfl⟩
  have HB5 := Lib.hid (below_drewN HB4.out t)
  have hz5 := HB5.out.size
  go_wp2_with fail
  with_reducible refine (hex7_any _ _ A n c zs (HA.out.below HB5.out) hz5 hn).mono ?_
  rintro e w55 ⟨rfl, hb⟩
  have HB55 := Lib.hid (HB5.out.trans (hb.mono hz5))
  have hz55 := HB55.out.size
  have HQ55 := Lib.hid ((HQ4.out.drewN t).below (hb.mono (by show w1.heap.size ≤ w4.heap.size; omega)))
  have hz4w : w4.heap.size ≤ w55.heap.size := hb.size
  have hHex := hex_any w55 _ Q m qc _ HQ55.out (by omega) (by omega)
  rw [HX.out] at hHex
  have HH := Lib.hid hHex
  clear hb hHex HB5 HB4 HQ4 HR4 HQ55
  go_wp2_with fail
  with_reducible refine HH.out.mono ?_
  rintro e w6 ⟨rfl, hb⟩
  have HB6 := Lib.hid (HB55.out.trans (hb.mono hz55))
  have hz6 := HB6.out.size
  clear hb HB55 HH
  rcases Nat.lt_or_ge 32768 n with h1 | h1
  · go_wp2_with fail
    with_reducible refine (unhex_hex_long _ zs n HL.out HBY.out h1).mono ?_
    rintro e w7 ⟨rfl, hb⟩
    have HB7 := Lib.hid (HB6.out.trans (hb.mono hz6))
    clear hb
    go_wp2
    go_ret
    exact ⟨rfl, HB7.out⟩
  · go_wp2_with fail
    with_reducible refine (unhex_hex _ zs n HL.out HBY.out h1).mono ?_
    rintro e w7 ⟨U, uc, rfl, hu, hb⟩
    have HB7 := Lib.hid (HB6.out.trans (hb.mono hz6))
    have HU7 := Lib.hid hu.arg
    clear hb hu
    go_wp2_with fail
    with_reducible refine (same_any _ _ _ U A n uc n c zs zs true (by simp) HU7.out (HA.out.below HB7.out)).mono ?_
    rintro e w8 ⟨rfl, t8, rfl⟩
    go_wp2
    go_ret
    exact ⟨rfl, below_drewN HB7.out _⟩
theorem tokenTexts_walk (A : Option Addr) (n c : Nat) (zs : List Nat) (s : ByteArray) (w : World) (h : Arg w w.heap.size A n c zs) (hc : c ≤ 1048576) (hs : s.size ≤ maxLen) :
    Calls Try.prog 5 #[.slice A n c, .string s] w (ValEnd w (.bool true)) := by
  have hn : n ≤ 1048576 := Nat.le_trans h.le hc
  rcases Nat.lt_or_ge 65536 s.size with h1 | h1
  · exact tokenTexts_err A n c zs s w 2 h hn rfl (Lib.hid fun w => unhex_long w s h1) (Lib.hid fun w => docUnhex_long w s h1)
  · rcases Nat.mod_two_eq_zero_or_one s.size with h2 | h2
    · have hm : s.size = 2 * (s.size / 2) := by omega
      have hm2 : s.size / 2 ≤ 32768 := by omega
      by_cases hg : goodTo (bl s) (s.size / 2)
      · refine tokenTexts_good A n c zs s w (s.size / 2) h hn hm2 (Lib.hid fun w => (unhex_even w s _ hm hm2).mono fun e w' he => he.1 hg) (Lib.hid fun w => (docUnhex_even w s _ hm hm2).mono fun e w' he => he.1 hg) (Lib.hid ?_)
        rw [hex_valN (bl s) _ (by rw [bl_len]; omega) hg, ← hm, ← bl_len, List.take_length, bytesArr_bl]
      · exact tokenTexts_err A n c zs s w 3 h hn rfl (Lib.hid fun w => (unhex_even w s _ hm hm2).mono fun e w' he => he.2 hg) (Lib.hid fun w => (docUnhex_even w s _ hm hm2).mono fun e w' he => he.2 hg)
    · exact tokenTexts_err A n c zs s w 3 h hn rfl (Lib.hid fun w => unhex_odd w s h1 h2) (Lib.hid fun w => docUnhex_odd w s h1 h2)
end Go.Proofs.Ytlkkldegbopnpaa
