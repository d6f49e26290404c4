/- Contracts: Encode and DocEncode of the document; Same. -/
import Derived.Test.YtndgladfcogiiaaTokC
namespace Go.Proofs.Ytndgladfcogiiaa
open Go.RowKit
set_option maxRecDepth 100000
set_option linter.unusedVariables false

theorem ret_s1 {A : Option Addr} {n m c : Nat} (h : n = m) : Ending.returned (.slice A n c) = .returned (.slice A m c) := by rw [h]

set_option maxHeartbeats 1600000 in
theorem encode7_any (w : World) (B : Nat) (p s : Nat) (A : Option Addr) (n c : Nat) (zs : List Nat) (h : Arg w B A n c zs) (hB : B ≤ w.heap.size) (hp : p < 32) (hs1 : 1 ≤ s) (hs2 : s ≤ 4611686018427387903) (hn : n ≤ 255) :
    Calls Try.prog 73 #[TokA p s A n c] w fun e w' => ∃ A' c', e = .returned (.slice A' (n + 16) c') ∧ OwnB w' w.heap.size A' (n + 16) c' (tokV p zs s) ∧ Below w.heap.size w w' := by
  have HLEN := Lib.hid h.len
  have HBY := Lib.hid h.byte
  have HA := Lib.hid (h.more hB)
  clear h
  have hfour := lit4 (w.alloc (.cells (tokB p s A n c).toArray 24)) 83 71 p n (by omega) (by omega) (by omega) (by omega)
  have hl := OwnB.lit (w.alloc (.cells (tokB p s A n c).toArray 24)) [83, 71, p, n] (by simp; omega) (n := 4) rfl (by unfold maxLen; omega)
  simp only [World.size_alloc] at hl
  have HO1 := Lib.hid hl
  have HA0 := Lib.hid (HA.out.below ((Below.refl w.heap.size w).alloc (Nat.le_refl _) (.cells (tokB p s A n c).toArray 24)))
  have HA1 := Lib.hid (HA0.out.keep ((Below.refl (w.heap.size + 1) (w.alloc (.cells (tokB p s A n c).toArray 24))).alloc (by simp) (.cells ([83, 71, p, n].map V8).toArray 5)) (by omega))
  have K0 := Lib.hid (BlkL.new w (tokB p s A n c) 24)
  have B0 := Lib.hid ((Below.refl w.heap.size w).alloc (Nat.le_refl _) (.cells (tokB p s A n c).toArray 24))
  have HBl := Lib.hid ((Below.refl (w.heap.size + 1) (w.alloc (.cells (tokB p s A n c).toArray 24))).alloc (by simp) (.cells ([83, 71, p, n].map V8).toArray 5))
  clear hfour hl HA
  go_enter Try.func73, Try.ntmps73
  go_wp2_with (refine wpList_append_bytes rfl (.tmp 12) (.tmp 14) rfl (w.heap.size + 1) (some ⟨w.heap.size + 1, 0, none⟩) 4 4 [83, 71, p, n] rfl HO1.out w.heap.size A n c zs rfl HA1.out (by omega) (by simp) ?_)
  intro A3 d3 w3 ho3 hb3
  have hbb3 := HBl.out.trans hb3
  have HO3 := Lib.hid ho3
  clear HA1 HBl HO1 hb3 ho3
  have hz3 := hbb3.size
  simp only [World.size_alloc] at hz3
  have hk3 := K0.out.keep hbb3 (by omega)
  have c0 := hk3.cell 0 _ rfl
  have c1 := hk3.cell 1 _ rfl
  have c2 := hk3.cell 2 _ rfl
  have z3 := hk3.lt
  have HB3 := Lib.hid hbb3
  clear hk3 hbb3
  go_wp2_with fail
  with_reducible refine (word8 _ s (by omega)).mono ?_
  rintro e w4 ⟨A4, d4, rfl, ho4, hb4⟩
  have hz4 := Nat.le_trans hz3 hb4.size
  have HW4 := Lib.hid ho4.arg
  have HO3' := Lib.hid (HO3.out.below hb4)
  have HB4 := Lib.hid (HB3.out.trans (hb4.mono hz3))
  clear c0 c1 c2 z3 hz3 HB3 HO3 hb4 ho4
  go_wp2_with (refine wpList_append_bytes rfl (.tmp 16) (.tmp 20) rfl (w.heap.size + 1) A3 (4 + n) d3 _ rfl HO3'.out w4.heap.size A4 8 d4 (Tk.wordV s 8) rfl HW4.out (by omega) (by omega) ?_)
  intro A5 d5 w5 ho5 hb5
  have hbb5 := HB4.out.trans hb5
  have hz5 := hbb5.size
  simp only [World.size_alloc] at hz5
  have ho5' : OwnB w5 (w.heap.size + 1) A5 (4 + n + 8) d5 (tokH p zs s) := by unfold tokH; rw [HLEN.out]; exact ho5
  have HO5 := Lib.hid ho5'
  have HB5 := Lib.hid hbb5
  clear HO3' HB4 HW4 hz4 ho5 ho5' hb5 hbb5
  go_wp2_with fail
  with_reducible refine (rsum_any _ w5.heap.size A5 (4 + n + 8) d5 _ HO5.out.arg).mono ?_
  rintro e w6 ⟨rfl, rfl⟩
  have hsl := sumV_lt (tokH p zs s)
  have hcast : ((sumV (tokH p zs s) % 4294967296 : Nat) : Int) = (sumV (tokH p zs s) : Int) % 4294967296 := by omega
  have hW := word4 w5 (sumV (tokH p zs s) % 4294967296) (by omega)
  rw [hcast, Tk.wordV_mod4] at hW
  have HW := Lib.hid hW
  clear hcast hW
  go_wp2_with fail
  with_reducible refine HW.out.mono ?_
  rintro e w7 ⟨A7, d7, rfl, ho7, hb7⟩
  have HW7 := Lib.hid ho7.arg
  have HO7 := Lib.hid (HO5.out.below hb7)
  have HB7 := Lib.hid (HB5.out.trans (hb7.mono hz5))
  have hz7 := Nat.le_trans hz5 hb7.size
  clear HB5 HO5 HW ho7 hb7 hz5
  go_wp2_with (refine wpList_append_bytes rfl (.tmp 22) (.tmp 26) rfl (w.heap.size + 1) A5 (4 + n + 8) d5 _ rfl HO7.out w7.heap.size A7 4 d7 _ rfl HW7.out (by omega) (by omega) ?_)
  intro A8 d8 w8 ho8 hb8
  have ho8' : OwnB w8 w.heap.size A8 (n + 16) d8 (tokV p zs s) := by
    have := ho8.mono (B' := w.heap.size) (by omega)
    rw [show n + 16 = 4 + n + 8 + 4 by omega]
    exact this
  have HO8 := Lib.hid ho8'
  have HB8 := Lib.hid (B0.out.trans ((HB7.out.trans hb8).mono (by omega)))
  clear hb8 ho8 ho8'
  go_wp2
  go_ret
  exact ⟨A8, d8, ret_s1 (by omega), HO8.out, HB8.out⟩
end Go.Proofs.Ytndgladfcogiiaa
