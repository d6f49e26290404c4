/- Contracts: Request and DocRequest of the document. -/
import Derived.Test.YtndgladfcogiiaaWrI
import Derived.Test.YtndgladfcogiiaaTokD
namespace Go.Proofs.Ytndgladfcogiiaa
open Go.RowKit
set_option maxRecDepth 100000
set_option linter.unusedVariables false

/-- A new slice of bytes. -/
def RqS (w : World) (bs : List Nat) (m : Nat) (e : Ending) (w' : World) : Prop := ∃ A c, e = .returned (.slice A m c) ∧ OwnB w' w.heap.size A m c bs ∧ Below w.heap.size w w'
abbrev oW (w : World) (o p : Int) (A : Option Addr) (n c : Nat) (s : Int) : World := (clW w o p A n c s).alloc (.cells #[.int .u8 o] 5)
theorem oW_K (w : World) (o p : Int) (A : Option Addr) (n c : Nat) (s : Int) : BlkL (oW w o p A n c s) w.heap.size (clB o p A n c s) := (clK w o p A n c s).alloc _
theorem oW_b (w : World) (o p : Int) (A : Option Addr) (n c : Nat) (s : Int) : Below w.heap.size w (oW w o p A n c s) := (clBl w o p A n c s).alloc (by simp) _
theorem oW_o (w : World) (o : Nat) (p : Int) (A : Option Addr) (n c : Nat) (s : Int) (ho : o < 256) : OwnB (oW w o p A n c s) (w.heap.size + 1) (some ⟨w.heap.size + 1, 0, none⟩) 1 1 [o] := by
  have := OwnB.lit (clW w o p A n c s) [o] (by simp; omega) (n := 1) rfl (by unfold maxLen; omega)
  rwa [show (clW w o p A n c s).heap.size = w.heap.size + 1 by simp] at this
theorem oW_s (w : World) (o p : Int) (A : Option Addr) (n c : Nat) (s : Int) : (oW w o p A n c s).heap.size = w.heap.size + 2 := by simp
theorem lit2q (w : World) (a b : Nat) (ha : a < 256) (hb : b < 256) : Arg (w.alloc (.cells #[.int .u8 (a : Int), .int .u8 (b : Int)] 5)) (w.heap.size + 1) (some ⟨w.heap.size, 0, none⟩) 2 2 [a, b] :=
  arg_blk w [a, b] (0, 0) (by simp; omega) (by simp [maxLen])
set_option maxHeartbeats 1600000 in
theorem rq_1 (w : World) (B p s : Nat) (A : Option Addr) (n c : Nat) (zs : List Nat) (h : Arg w B A n c zs) (hB : B ≤ w.heap.size) (hp : p < 32) (hn : n ≤ 255) (hs : s ≤ 4611686018427387903) :
    Calls Try.prog 96 #[ClA 1 p A n c s] w (RqS w ((1 :: p :: zs.length :: zs) ++ Tk.wordV s 8) (n + 11)) := by
  have K := oW_K w 1 p A n c s
  have c0 := K.cell 0 _ rfl
  have c1 := K.cell 1 _ rfl
  have c2 := K.cell 2 _ rfl
  have c3 := K.cell 3 _ rfl
  have kk := clK w 1 p A n c s
  have b0 := kk.cell 0 _ rfl
  have HK := Lib.hid K
  have HB0 := Lib.hid (oW_b w 1 p A n c s)
  have HO : Hid (OwnB (oW w 1 p A n c s) (w.heap.size + 1) (some ⟨w.heap.size + 1, 0, none⟩) 1 1 [1]) := Lib.hid (oW_o w 1 p A n c s (by omega))
  have HS := Lib.hid (oW_s w 1 p A n c s)
  have HA := Lib.hid (h.below ((oW_b w 1 p A n c s).mono hB))
  have HLEN := Lib.hid h.len
  have l0 := K.lt
  have ewp : IntKind.u8.wrap (p : Int) = (p : Int) := IntWalk.u8_in _ (by omega)
  have ewn : IntKind.u8.wrap (n : Int) = (n : Int) := IntWalk.u8_in _ (by omega)
  have eu : IntKind.u64.wrap (s : Int) = (s : Int) := IntWalk.u64_in _ (by omega)
  have hl := lit2q (oW w 1 p A n c s) p n (by omega) (by omega)
  rw [oW_s] at hl
  have HL := Lib.hid hl
  have HBl : Hid (Below (w.heap.size + 2) (oW w 1 p A n c s) ((oW w 1 p A n c s).alloc (.cells #[.int .u8 (p : Int), .int .u8 (n : Int)] 5))) := Lib.hid ((Below.refl _ _).alloc (by rw [oW_s]; exact Nat.le_refl _) _)
  have HO2 := Lib.hid (HO.out.below (w' := (oW w 1 p A n c s).alloc (.cells #[.int .u8 (p : Int), .int .u8 (n : Int)] 5)) (by rw [oW_s]; exact HBl.out))
  have HS2 : Hid (w.heap.size + 1 ≤ ((oW w 1 p A n c s).alloc (.cells #[.int .u8 (p : Int), .int .u8 (n : Int)] 5)).heap.size) := Lib.hid (by have := HBl.out.size; rw [oW_s] at this; omega)
  clear K h kk hl HO
  go_enter Try.func96, Try.ntmps96
  go_wp2_with (refine wpList_append_bytes rfl (.tmp 25) (.tmp 33) rfl (w.heap.size + 1) (some ⟨w.heap.size + 1, 0, none⟩) 1 1 [1] rfl HO2.out (w.heap.size + 3) (some ⟨w.heap.size + 2, 0, none⟩) 2 2 [p, n] rfl HL.out (by omega) HS2.out ?_)
  intro A3 d3 w3 ho3 hb3
  have hbb := HBl.out.mono (B' := w.heap.size + 1) (by omega) |>.trans hb3
  have hk3 := HK.out.keep hbb (by omega)
  have q0 := hk3.cell 0 _ rfl
  have q1 := hk3.cell 1 _ rfl
  have q2 := hk3.cell 2 _ rfl
  have q3 := hk3.cell 3 _ rfl
  have HK3 := Lib.hid hk3
  have HO3 := Lib.hid ho3
  have HB3 := Lib.hid (HB0.out.trans (hbb.mono (by omega)))
  have HA3 := Lib.hid (HA.out.below (hbb.mono (by omega)))
  have HS3 : Hid (w.heap.size + 1 ≤ w3.heap.size) := Lib.hid (Nat.le_trans HS2.out hb3.size)
  clear ho3 hb3 hbb hk3 c0 c1 c2 c3 b0 HO2 HL
  go_wp2_with (refine wpList_append_bytes rfl (.tmp 35) (.tmp 37) rfl (w.heap.size + 1) A3 3 d3 _ rfl HO3.out B A n c zs rfl HA3.out (by omega) HS3.out ?_)
  intro A4 d4 w4 ho4 hb4
  have hk4 := HK3.out.keep hb4 (by omega)
  have r0 := hk4.cell 0 _ rfl
  have r1 := hk4.cell 1 _ rfl
  have r2 := hk4.cell 2 _ rfl
  have r3 := hk4.cell 3 _ rfl
  have HO4 := Lib.hid ho4
  have HB4 := Lib.hid (HB3.out.trans (hb4.mono (by omega)))
  have HS4 : Hid (w.heap.size + 1 ≤ w4.heap.size) := Lib.hid (Nat.le_trans HS3.out hb4.size)
  clear ho4 hb4 hk4 q0 q1 q2 q3 HO3
  go_wp2_with fail
  with_reducible refine (word8 _ s (by omega)).mono ?_
  rintro e w5 ⟨A5, d5, rfl, ho5, hb5⟩
  have HW5 := Lib.hid ho5.arg
  have HO5 := Lib.hid (HO4.out.below hb5)
  have HB5 := Lib.hid (HB4.out.trans (hb5.mono HB4.out.size))
  have HS5 : Hid (w.heap.size + 1 ≤ w5.heap.size) := Lib.hid (Nat.le_trans HS4.out hb5.size)
  clear ho5 hb5 HO4
  go_wp2_with (refine wpList_append_bytes rfl (.tmp 42) (.tmp 46) rfl (w.heap.size + 1) A4 (3 + n) d4 _ rfl HO5.out w5.heap.size A5 8 d5 (Tk.wordV s 8) rfl HW5.out (by omega) HS5.out ?_)
  intro A6 d6 w6 ho6 hb6
  have HO6 := Lib.hid (ho6.mono (B' := w.heap.size) (by omega))
  have HB6 := Lib.hid (HB5.out.trans (hb6.mono (by omega)))
  clear ho6 hb6
  go_wp2
  go_ret
  exact ⟨A6, d6, ret_s1 (by omega), by rw [show n + 11 = 3 + n + 8 by omega, HLEN.out]; exact HO6.out, HB6.out⟩
set_option maxHeartbeats 1600000 in
theorem rq_2 (w : World) (B p : Nat) (s : Int) (A : Option Addr) (n c : Nat) (zs : List Nat) (h : Arg w B A n c zs) (hB : B ≤ w.heap.size) (hp : p < 32) (hn : n ≤ 255) :
    Calls Try.prog 96 #[ClA 2 p A n c s] w (RqS w (2 :: p :: zs.length :: zs) (n + 3)) := by
  have K := oW_K w 2 p A n c s
  have c0 := K.cell 0 _ rfl
  have c1 := K.cell 1 _ rfl
  have c2 := K.cell 2 _ rfl
  have c3 := K.cell 3 _ rfl
  have kk := clK w 2 p A n c s
  have b0 := kk.cell 0 _ rfl
  have HK := Lib.hid K
  have HB0 := Lib.hid (oW_b w 2 p A n c s)
  have HO : Hid (OwnB (oW w 2 p A n c s) (w.heap.size + 1) (some ⟨w.heap.size + 1, 0, none⟩) 1 1 [2]) := Lib.hid (oW_o w 2 p A n c s (by omega))
  have HS := Lib.hid (oW_s w 2 p A n c s)
  have HA := Lib.hid (h.below ((oW_b w 2 p A n c s).mono hB))
  have HLEN := Lib.hid h.len
  have l0 := K.lt
  have ewp : IntKind.u8.wrap (p : Int) = (p : Int) := IntWalk.u8_in _ (by omega)
  have ewn : IntKind.u8.wrap (n : Int) = (n : Int) := IntWalk.u8_in _ (by omega)
  have hl := lit2q (oW w 2 p A n c s) p n (by omega) (by omega)
  rw [oW_s] at hl
  have HL := Lib.hid hl
  have HBl : Hid (Below (w.heap.size + 2) (oW w 2 p A n c s) ((oW w 2 p A n c s).alloc (.cells #[.int .u8 (p : Int), .int .u8 (n : Int)] 5))) := Lib.hid ((Below.refl _ _).alloc (by rw [oW_s]; exact Nat.le_refl _) _)
  have HO2 := Lib.hid (HO.out.below (w' := (oW w 2 p A n c s).alloc (.cells #[.int .u8 (p : Int), .int .u8 (n : Int)] 5)) (by rw [oW_s]; exact HBl.out))
  have HS2 : Hid (w.heap.size + 1 ≤ ((oW w 2 p A n c s).alloc (.cells #[.int .u8 (p : Int), .int .u8 (n : Int)] 5)).heap.size) := Lib.hid (by have := HBl.out.size; rw [oW_s] at this; omega)
  clear K h kk hl HO
  go_enter Try.func96, Try.ntmps96
  go_wp2_with (refine wpList_append_bytes rfl (.tmp 25) (.tmp 33) rfl (w.heap.size + 1) (some ⟨w.heap.size + 1, 0, none⟩) 1 1 [2] rfl HO2.out (w.heap.size + 3) (some ⟨w.heap.size + 2, 0, none⟩) 2 2 [p, n] rfl HL.out (by omega) HS2.out ?_)
  intro A3 d3 w3 ho3 hb3
  have hbb := HBl.out.mono (B' := w.heap.size + 1) (by omega) |>.trans hb3
  have hk3 := HK.out.keep hbb (by omega)
  have q0 := hk3.cell 0 _ rfl
  have q1 := hk3.cell 1 _ rfl
  have q2 := hk3.cell 2 _ rfl
  have q3 := hk3.cell 3 _ rfl
  have HK3 := Lib.hid hk3
  have HO3 := Lib.hid ho3
  have HB3 := Lib.hid (HB0.out.trans (hbb.mono (by omega)))
  have HA3 := Lib.hid (HA.out.below (hbb.mono (by omega)))
  have HS3 : Hid (w.heap.size + 1 ≤ w3.heap.size) := Lib.hid (Nat.le_trans HS2.out hb3.size)
  clear ho3 hb3 hbb hk3 c0 c1 c2 c3 b0 HO2 HL
  go_wp2_with (refine wpList_append_bytes rfl (.tmp 35) (.tmp 37) rfl (w.heap.size + 1) A3 3 d3 _ rfl HO3.out B A n c zs rfl HA3.out (by omega) HS3.out ?_)
  intro A4 d4 w4 ho4 hb4
  have hk4 := HK3.out.keep hb4 (by omega)
  have r0 := hk4.cell 0 _ rfl
  have r1 := hk4.cell 1 _ rfl
  have r2 := hk4.cell 2 _ rfl
  have r3 := hk4.cell 3 _ rfl
  have HO4 := Lib.hid ho4
  have HB4 := Lib.hid (HB3.out.trans (hb4.mono (by omega)))
  have HS4 : Hid (w.heap.size + 1 ≤ w4.heap.size) := Lib.hid (Nat.le_trans HS3.out hb4.size)
  clear ho4 hb4 hk4 q0 q1 q2 q3 HO3
  go_wp2
  go_ret
  exact ⟨A4, d4, ret_s1 (by omega), by rw [show n + 3 = 3 + n by omega, HLEN.out]; exact HO4.out.mono (by omega), HB4.out⟩
set_option maxHeartbeats 1600000 in
theorem rq_4 (w : World) (B p : Nat) (s : Int) (A : Option Addr) (n c : Nat) (zs : List Nat) (h : Arg w B A n c zs) (hB : B ≤ w.heap.size) (hp : p < 32) (hn : n ≤ 255) :
    Calls Try.prog 96 #[ClA 4 p A n c s] w (RqS w (4 :: p :: zs.length :: zs) (n + 3)) := by
  have K := oW_K w 4 p A n c s
  have c0 := K.cell 0 _ rfl
  have c1 := K.cell 1 _ rfl
  have c2 := K.cell 2 _ rfl
  have c3 := K.cell 3 _ rfl
  have kk := clK w 4 p A n c s
  have b0 := kk.cell 0 _ rfl
  have HK := Lib.hid K
  have HB0 := Lib.hid (oW_b w 4 p A n c s)
  have HO : Hid (OwnB (oW w 4 p A n c s) (w.heap.size + 1) (some ⟨w.heap.size + 1, 0, none⟩) 1 1 [4]) := Lib.hid (oW_o w 4 p A n c s (by omega))
  have HS := Lib.hid (oW_s w 4 p A n c s)
  have HA := Lib.hid (h.below ((oW_b w 4 p A n c s).mono hB))
  have HLEN := Lib.hid h.len
  have l0 := K.lt
  have ewp : IntKind.u8.wrap (p : Int) = (p : Int) := IntWalk.u8_in _ (by omega)
  have ewn : IntKind.u8.wrap (n : Int) = (n : Int) := IntWalk.u8_in _ (by omega)
  have hl := lit2q (oW w 4 p A n c s) p n (by omega) (by omega)
  rw [oW_s] at hl
  have HL := Lib.hid hl
  have HBl : Hid (Below (w.heap.size + 2) (oW w 4 p A n c s) ((oW w 4 p A n c s).alloc (.cells #[.int .u8 (p : Int), .int .u8 (n : Int)] 5))) := Lib.hid ((Below.refl _ _).alloc (by rw [oW_s]; exact Nat.le_refl _) _)
  have HO2 := Lib.hid (HO.out.below (w' := (oW w 4 p A n c s).alloc (.cells #[.int .u8 (p : Int), .int .u8 (n : Int)] 5)) (by rw [oW_s]; exact HBl.out))
  have HS2 : Hid (w.heap.size + 1 ≤ ((oW w 4 p A n c s).alloc (.cells #[.int .u8 (p : Int), .int .u8 (n : Int)] 5)).heap.size) := Lib.hid (by have := HBl.out.size; rw [oW_s] at this; omega)
  clear K h kk hl HO
  go_enter Try.func96, Try.ntmps96
  go_wp2_with (refine wpList_append_bytes rfl (.tmp 25) (.tmp 33) rfl (w.heap.size + 1) (some ⟨w.heap.size + 1, 0, none⟩) 1 1 [4] rfl HO2.out (w.heap.size + 3) (some ⟨w.heap.size + 2, 0, none⟩) 2 2 [p, n] rfl HL.out (by omega) HS2.out ?_)
  intro A3 d3 w3 ho3 hb3
  have hbb := HBl.out.mono (B' := w.heap.size + 1) (by omega) |>.trans hb3
  have hk3 := HK.out.keep hbb (by omega)
  have q0 := hk3.cell 0 _ rfl
  have q1 := hk3.cell 1 _ rfl
  have q2 := hk3.cell 2 _ rfl
  have q3 := hk3.cell 3 _ rfl
  have HK3 := Lib.hid hk3
  have HO3 := Lib.hid ho3
  have HB3 := Lib.hid (HB0.out.trans (hbb.mono (by omega)))
  have HA3 := Lib.hid (HA.out.below (hbb.mono (by omega)))
  have HS3 : Hid (w.heap.size + 1 ≤ w3.heap.size) := Lib.hid (Nat.le_trans HS2.out hb3.size)
  clear ho3 hb3 hbb hk3 c0 c1 c2 c3 b0 HO2 HL
  go_wp2_with (refine wpList_append_bytes rfl (.tmp 35) (.tmp 37) rfl (w.heap.size + 1) A3 3 d3 _ rfl HO3.out B A n c zs rfl HA3.out (by omega) HS3.out ?_)
  intro A4 d4 w4 ho4 hb4
  have hk4 := HK3.out.keep hb4 (by omega)
  have r0 := hk4.cell 0 _ rfl
  have r1 := hk4.cell 1 _ rfl
  have r2 := hk4.cell 2 _ rfl
  have r3 := hk4.cell 3 _ rfl
  have HO4 := Lib.hid ho4
  have HB4 := Lib.hid (HB3.out.trans (hb4.mono (by omega)))
  have HS4 : Hid (w.heap.size + 1 ≤ w4.heap.size) := Lib.hid (Nat.le_trans HS3.out hb4.size)
  clear ho4 hb4 hk4 q0 q1 q2 q3 HO3
  go_wp2
  go_ret
  exact ⟨A4, d4, ret_s1 (by omega), by rw [show n + 3 = 3 + n by omega, HLEN.out]; exact HO4.out.mono (by omega), HB4.out⟩
set_option maxHeartbeats 1600000 in
theorem rq_3 (w : World) (B p s : Nat) (A : Option Addr) (n c : Nat) (zs : List Nat) (h : Arg w B A n c zs) (hB : B ≤ w.heap.size) (hp : p < 32) (hn : n ≤ 255) (hs : s ≤ 4611686018427387903) (hs1 : 1 ≤ s) :
    Calls Try.prog 96 #[ClA 3 p A n c s] w (RqS w (3 :: tokV p zs s) (n + 17)) := by
  have K := oW_K w 3 p A n c s
  have c0 := K.cell 0 _ rfl
  have c1 := K.cell 1 _ rfl
  have c2 := K.cell 2 _ rfl
  have c3 := K.cell 3 _ rfl
  have kk := clK w 3 p A n c s
  have b0 := kk.cell 0 _ rfl
  have HK := Lib.hid K
  have HB0 := Lib.hid (oW_b w 3 p A n c s)
  have HO : Hid (OwnB (oW w 3 p A n c s) (w.heap.size + 1) (some ⟨w.heap.size + 1, 0, none⟩) 1 1 [3]) := Lib.hid (oW_o w 3 p A n c s (by omega))
  have HS := Lib.hid (oW_s w 3 p A n c s)
  have HA := Lib.hid (h.below ((oW_b w 3 p A n c s).mono hB))
  have HLEN := Lib.hid h.len
  have l0 := K.lt
  have HC := Lib.hid (encode7_any (oW w 3 p A n c s) B p s A n c zs HA.out (by rw [oW_s]; omega) hp hs1 hs hn)
  clear K h kk
  go_enter Try.func96, Try.ntmps96
  go_wp2_with fail
  with_reducible refine (HC.out).mono ?_
  rintro e w2 ⟨A2, d2, rfl, ho2, hb2⟩
  have HA2 := Lib.hid ho2.arg
  have HO2 := Lib.hid (HO.out.below hb2)
  have HB2 := Lib.hid (HB0.out.trans (hb2.mono (by rw [oW_s]; omega)))
  have HS2 : Hid (w.heap.size + 1 ≤ w2.heap.size) := Lib.hid (by have := hb2.size; rw [oW_s] at this; omega)
  clear ho2 hb2 c0 c1 c2 c3 b0 HC HO HA
  go_wp2_with (refine wpList_append_bytes rfl (.tmp 11) (.tmp 19) rfl (w.heap.size + 1) (some ⟨w.heap.size + 1, 0, none⟩) 1 1 [3] rfl HO2.out w2.heap.size A2 (n + 16) d2 _ rfl HA2.out (by omega) HS2.out ?_)
  intro A3 d3 w3 ho3 hb3
  have HO3 := Lib.hid (ho3.mono (B' := w.heap.size) (by omega))
  have HB3 := Lib.hid (HB2.out.trans (hb3.mono (by omega)))
  clear ho3 hb3
  go_wp2
  go_ret
  exact ⟨A3, d3, ret_s1 (by omega), by rw [show n + 17 = 1 + (n + 16) by omega]; exact HO3.out, HB3.out⟩
theorem rq_5 (w : World) (p s : Int) (A : Option Addr) (n c : Nat) : Calls Try.prog 96 #[ClA 5 p A n c s] w (RqS w [5] 1) := by
  have K := oW_K w 5 p A n c s
  have c0 := K.cell 0 _ rfl
  have kk := clK w 5 p A n c s
  have b0 := kk.cell 0 _ rfl
  have HB0 := Lib.hid (oW_b w 5 p A n c s)
  have HO : Hid (OwnB (oW w 5 p A n c s) (w.heap.size + 1) (some ⟨w.heap.size + 1, 0, none⟩) 1 1 [5]) := Lib.hid (oW_o w 5 p A n c s (by omega))
  clear K kk
  go_enter Try.func96, Try.ntmps96
  go_wp2
  go_ret
  exact ⟨some ⟨w.heap.size + 1, 0, none⟩, 1, rfl, HO.out.mono (by omega), HB0.out⟩
theorem rq_6 (w : World) (p s : Int) (A : Option Addr) (n c : Nat) : Calls Try.prog 96 #[ClA 6 p A n c s] w (RqS w [6] 1) := by
  have K := oW_K w 6 p A n c s
  have c0 := K.cell 0 _ rfl
  have kk := clK w 6 p A n c s
  have b0 := kk.cell 0 _ rfl
  have HB0 := Lib.hid (oW_b w 6 p A n c s)
  have HO : Hid (OwnB (oW w 6 p A n c s) (w.heap.size + 1) (some ⟨w.heap.size + 1, 0, none⟩) 1 1 [6]) := Lib.hid (oW_o w 6 p A n c s (by omega))
  clear K kk
  go_enter Try.func96, Try.ntmps96
  go_wp2
  go_ret
  exact ⟨some ⟨w.heap.size + 1, 0, none⟩, 1, rfl, HO.out.mono (by omega), HB0.out⟩
theorem drq_no (w : World) (o : Nat) (p s : Int) (A : Option Addr) (n c : Nat) (zs : List Nat) (ho : o < 1 ∨ 6 < o) : Calls Try.prog 45 #[ClA o p A n c s] w (ReqE w o p s zs) := by
  have K := clK w o p A n c s
  have c0 := K.cell 0 _ rfl
  have c1 := K.cell 1 _ rfl
  have c2 := K.cell 2 _ rfl
  have c3 := K.cell 3 _ rfl
  have HB := Lib.hid (clBl w o p A n c s)
  have HF : Hid (rqC o p s zs.length = 1) := Lib.hid (by unfold rqC; rw [if_neg (by omega), if_pos (by omega)])
  clear K
  rcases ho with ho | ho
  · have d1 : decide ((o : Int) < 1) = true := by simp; omega
    go_enter Try.func45, Try.ntmps45
    go_wp2
    go_ret2
    exact reqE_no 1 HF.out (by omega) ⟨rfl, HB.out⟩
  · have d1 : decide ((o : Int) < 1) = false := by simp; omega
    have d2 : decide ((6 : Int) < (o : Int)) = true := by simp; omega
    go_enter Try.func45, Try.ntmps45
    go_wp2
    go_ret2
    exact reqE_no 1 HF.out (by omega) ⟨rfl, HB.out⟩
theorem drq_pl1 (w : World) (p s : Int) (A : Option Addr) (n c : Nat) (zs : List Nat) (hp : p < 0) : Calls Try.prog 45 #[ClA 1 p A n c s] w (ReqE w 1 p s zs) := by
  have K := clK w 1 p A n c s
  have c0 := K.cell 0 _ rfl
  have c1 := K.cell 1 _ rfl
  have c2 := K.cell 2 _ rfl
  have c3 := K.cell 3 _ rfl
  have HB := Lib.hid (clBl w 1 p A n c s)
  have HF : Hid (rqC 1 p s zs.length = 1) := Lib.hid (by unfold rqC; rw [if_neg (by omega), if_neg (by omega), if_pos (.inl (by unfold polB; simp; omega))])
  clear K
  have d1 : decide (p < 0) = true := by simpa using hp
  go_enter Try.func45, Try.ntmps45
  go_wp2
  go_ret2
  exact reqE_no 1 HF.out (by omega) ⟨rfl, HB.out⟩
theorem drq_ph1 (w : World) (p s : Int) (A : Option Addr) (n c : Nat) (zs : List Nat) (hp : 32 ≤ p) : Calls Try.prog 45 #[ClA 1 p A n c s] w (ReqE w 1 p s zs) := by
  have K := clK w 1 p A n c s
  have c0 := K.cell 0 _ rfl
  have c1 := K.cell 1 _ rfl
  have c2 := K.cell 2 _ rfl
  have c3 := K.cell 3 _ rfl
  have HB := Lib.hid (clBl w 1 p A n c s)
  have HF : Hid (rqC 1 p s zs.length = 1) := Lib.hid (by unfold rqC; rw [if_neg (by omega), if_neg (by omega), if_pos (.inl (by unfold polB; simp; omega))])
  clear K
  have d1 : decide (p < 0) = false := decide_eq_false (by omega)
  have d2 : decide (32 ≤ p) = true := by simpa using hp
  go_enter Try.func45, Try.ntmps45
  go_wp2
  go_ret2
  exact reqE_no 1 HF.out (by omega) ⟨rfl, HB.out⟩
theorem drq_n1 (w : World) (p s : Int) (A : Option Addr) (n c : Nat) (zs : List Nat) (h0 : 0 ≤ p) (h1 : p < 32) (hs : tkB s = false) : Calls Try.prog 45 #[ClA 1 p A n c s] w (ReqE w 1 p s zs) := by
  have K := clK w 1 p A n c s
  have c0 := K.cell 0 _ rfl
  have c1 := K.cell 1 _ rfl
  have c2 := K.cell 2 _ rfl
  have c3 := K.cell 3 _ rfl
  have HB := Lib.hid (clBl w 1 p A n c s)
  have d1 : decide (p < 0) = false := decide_eq_false (by omega)
  have d2 : decide (32 ≤ p) = false := decide_eq_false (by omega)
  have HF : Hid (rqC 1 p s zs.length = 1) := Lib.hid (by unfold rqC; rw [if_neg (by omega), if_neg (by omega), if_pos (.inr (.inl ⟨rfl, hs⟩))])
  have HT := Lib.hid (rform_b (clW w 1 p A n c s) s false hs)
  clear K hs
  go_enter Try.func45, Try.ntmps45
  go_wp2_with fail
  with_reducible refine (HT.out).mono ?_
  rintro e w' ⟨rfl, rfl⟩
  go_wp2
  go_ret2
  exact reqE_no 1 HF.out (by omega) ⟨rfl, HB.out⟩
theorem drq_l1 (w : World) (p s : Int) (A : Option Addr) (n c : Nat) (zs : List Nat) (hl : zs.length = n) (h0 : 0 ≤ p) (h1 : p < 32) (hs : tkB s = true) (hn : 255 < n) : Calls Try.prog 45 #[ClA 1 p A n c s] w (ReqE w 1 p s zs) := by
  have K := clK w 1 p A n c s
  have c0 := K.cell 0 _ rfl
  have c1 := K.cell 1 _ rfl
  have c2 := K.cell 2 _ rfl
  have c3 := K.cell 3 _ rfl
  have HB := Lib.hid (clBl w 1 p A n c s)
  have d1 : decide (p < 0) = false := decide_eq_false (by omega)
  have d2 : decide (32 ≤ p) = false := decide_eq_false (by omega)
  have hx : ¬ (polB p = false ∨ (1 = 1 ∧ tkB s = false) ∨ (1 = 3 ∧ serB s = false)) := by
    have : polB p = true := by unfold polB; simp; omega
    rw [this]
    rw [hs]; simp
  have HF : Hid (rqC 1 p s zs.length = 2) := Lib.hid (by unfold rqC; rw [if_neg (by omega), if_neg (by omega), if_neg hx, if_pos (by omega)])
  have d3 : decide ((255 : Int) < (n : Int)) = true := by simp; omega
  clear K hx
  have HT := Lib.hid (rform_b (clW w 1 p A n c s) s true hs)
  clear hs
  go_enter Try.func45, Try.ntmps45
  go_wp2_with fail
  with_reducible refine (HT.out).mono ?_
  rintro e w' ⟨rfl, rfl⟩
  go_wp2
  go_ret2
  exact reqE_no 2 HF.out (by omega) ⟨rfl, HB.out⟩
set_option maxHeartbeats 1600000 in
theorem drq_g1 (w : World) (B p s : Nat) (A : Option Addr) (n c : Nat) (zs : List Nat) (h : Arg w B A n c zs) (hB : B ≤ w.heap.size) (h1 : p < 32) (hs2 : s ≤ 4611686018427387903) (hn : n ≤ 255) : Calls Try.prog 45 #[ClA 1 p A n c s] w (ReqE w 1 p s zs) := by
  have K := clK w 1 p A n c s
  have c0 := K.cell 0 _ rfl
  have c1 := K.cell 1 _ rfl
  have c2 := K.cell 2 _ rfl
  have c3 := K.cell 3 _ rfl
  have HB := Lib.hid (clBl w 1 p A n c s)
  have d1 : decide ((p : Int) < 0) = false := decide_eq_false (by omega)
  have d2 : decide (32 ≤ (p : Int)) = false := decide_eq_false (by omega)
  have hx : ¬ (polB (p : Int) = false ∨ (1 = 1 ∧ tkB (s : Int) = false) ∨ (1 = 3 ∧ serB (s : Int) = false)) := by
    have : polB (p : Int) = true := by unfold polB; simp; omega
    rw [this]
    have hs : tkB (s : Int) = true := tkB_of (by omega) (by omega)
    rw [hs]; simp
  have hl := h.len
  have HF : Hid (rqC 1 (p : Int) (s : Int) zs.length = 0) := Lib.hid (by unfold rqC; rw [if_neg (by omega), if_neg (by omega), if_neg hx, if_neg (by omega)])
  have d3 : decide ((255 : Int) < (n : Int)) = false := by simp; omega
  have HT := Lib.hid (rform_b (clW w 1 p A n c s) s true (tkB_of (by omega) (by omega)))
  have HC := Lib.hid (rq_1 (clW w 1 p A n c s) B p s A n c zs (h.below ((clBl w 1 p A n c s).mono hB)) (by simp; omega) h1 hn hs2)
  clear K hx h
  go_enter Try.func45, Try.ntmps45
  go_wp2_with fail
  with_reducible refine (HT.out).mono ?_
  rintro e w' ⟨rfl, rfl⟩
  go_wp2_with fail
  with_reducible refine (HC.out).mono ?_
  rintro e w1 ⟨A1, d1, rfl, ho1, hb1⟩
  have HE := Lib.hid (And.intro (ho1.mono (B' := w.heap.size) (by simp)) (HB.out.trans (hb1.mono (by simp))))
  clear ho1 hb1
  go_wp2
  go_ret2
  exact reqE_yes HF.out (by unfold rqB; rw [if_pos rfl]; rfl) ⟨A1, d1, rfl, HE.out.1, HE.out.2⟩
theorem drq_pl2 (w : World) (p s : Int) (A : Option Addr) (n c : Nat) (zs : List Nat) (hp : p < 0) : Calls Try.prog 45 #[ClA 2 p A n c s] w (ReqE w 2 p s zs) := by
  have K := clK w 2 p A n c s
  have c0 := K.cell 0 _ rfl
  have c1 := K.cell 1 _ rfl
  have c2 := K.cell 2 _ rfl
  have c3 := K.cell 3 _ rfl
  have HB := Lib.hid (clBl w 2 p A n c s)
  have HF : Hid (rqC 2 p s zs.length = 1) := Lib.hid (by unfold rqC; rw [if_neg (by omega), if_neg (by omega), if_pos (.inl (by unfold polB; simp; omega))])
  clear K
  have d1 : decide (p < 0) = true := by simpa using hp
  go_enter Try.func45, Try.ntmps45
  go_wp2
  go_ret2
  exact reqE_no 1 HF.out (by omega) ⟨rfl, HB.out⟩
theorem drq_ph2 (w : World) (p s : Int) (A : Option Addr) (n c : Nat) (zs : List Nat) (hp : 32 ≤ p) : Calls Try.prog 45 #[ClA 2 p A n c s] w (ReqE w 2 p s zs) := by
  have K := clK w 2 p A n c s
  have c0 := K.cell 0 _ rfl
  have c1 := K.cell 1 _ rfl
  have c2 := K.cell 2 _ rfl
  have c3 := K.cell 3 _ rfl
  have HB := Lib.hid (clBl w 2 p A n c s)
  have HF : Hid (rqC 2 p s zs.length = 1) := Lib.hid (by unfold rqC; rw [if_neg (by omega), if_neg (by omega), if_pos (.inl (by unfold polB; simp; omega))])
  clear K
  have d1 : decide (p < 0) = false := decide_eq_false (by omega)
  have d2 : decide (32 ≤ p) = true := by simpa using hp
  go_enter Try.func45, Try.ntmps45
  go_wp2
  go_ret2
  exact reqE_no 1 HF.out (by omega) ⟨rfl, HB.out⟩
theorem drq_l2 (w : World) (p s : Int) (A : Option Addr) (n c : Nat) (zs : List Nat) (hl : zs.length = n) (h0 : 0 ≤ p) (h1 : p < 32) (hn : 255 < n) : Calls Try.prog 45 #[ClA 2 p A n c s] w (ReqE w 2 p s zs) := by
  have K := clK w 2 p A n c s
  have c0 := K.cell 0 _ rfl
  have c1 := K.cell 1 _ rfl
  have c2 := K.cell 2 _ rfl
  have c3 := K.cell 3 _ rfl
  have HB := Lib.hid (clBl w 2 p A n c s)
  have d1 : decide (p < 0) = false := decide_eq_false (by omega)
  have d2 : decide (32 ≤ p) = false := decide_eq_false (by omega)
  have hx : ¬ (polB p = false ∨ (2 = 1 ∧ tkB s = false) ∨ (2 = 3 ∧ serB s = false)) := by
    have : polB p = true := by unfold polB; simp; omega
    rw [this]
    simp
  have HF : Hid (rqC 2 p s zs.length = 2) := Lib.hid (by unfold rqC; rw [if_neg (by omega), if_neg (by omega), if_neg hx, if_pos (by omega)])
  have d3 : decide ((255 : Int) < (n : Int)) = true := by simp; omega
  clear K hx
  go_enter Try.func45, Try.ntmps45
  go_wp2
  go_ret2
  exact reqE_no 2 HF.out (by omega) ⟨rfl, HB.out⟩
set_option maxHeartbeats 1600000 in
theorem drq_g2 (w : World) (B p : Nat) (s : Int) (A : Option Addr) (n c : Nat) (zs : List Nat) (h : Arg w B A n c zs) (hB : B ≤ w.heap.size) (h1 : p < 32) (hn : n ≤ 255) : Calls Try.prog 45 #[ClA 2 p A n c s] w (ReqE w 2 p s zs) := by
  have K := clK w 2 p A n c s
  have c0 := K.cell 0 _ rfl
  have c1 := K.cell 1 _ rfl
  have c2 := K.cell 2 _ rfl
  have c3 := K.cell 3 _ rfl
  have HB := Lib.hid (clBl w 2 p A n c s)
  have d1 : decide ((p : Int) < 0) = false := decide_eq_false (by omega)
  have d2 : decide (32 ≤ (p : Int)) = false := decide_eq_false (by omega)
  have hx : ¬ (polB (p : Int) = false ∨ (2 = 1 ∧ tkB (s : Int) = false) ∨ (2 = 3 ∧ serB (s : Int) = false)) := by
    have : polB (p : Int) = true := by unfold polB; simp; omega
    rw [this]
    simp
  have hl := h.len
  have HF : Hid (rqC 2 (p : Int) (s : Int) zs.length = 0) := Lib.hid (by unfold rqC; rw [if_neg (by omega), if_neg (by omega), if_neg hx, if_neg (by omega)])
  have d3 : decide ((255 : Int) < (n : Int)) = false := by simp; omega
  have HC := Lib.hid (rq_2 (clW w 2 p A n c s) B p s A n c zs (h.below ((clBl w 2 p A n c s).mono hB)) (by simp; omega) h1 hn)
  clear K hx h
  go_enter Try.func45, Try.ntmps45
  go_wp2_with fail
  with_reducible refine (HC.out).mono ?_
  rintro e w1 ⟨A1, d1, rfl, ho1, hb1⟩
  have HE := Lib.hid (And.intro (ho1.mono (B' := w.heap.size) (by simp)) (HB.out.trans (hb1.mono (by simp))))
  clear ho1 hb1
  go_wp2
  go_ret2
  exact reqE_yes HF.out (by unfold rqB; rw [if_neg (by omega), if_neg (by omega), if_pos (by omega)]; rfl) ⟨A1, d1, rfl, HE.out.1, HE.out.2⟩
theorem drq_pl3 (w : World) (p s : Int) (A : Option Addr) (n c : Nat) (zs : List Nat) (hp : p < 0) : Calls Try.prog 45 #[ClA 3 p A n c s] w (ReqE w 3 p s zs) := by
  have K := clK w 3 p A n c s
  have c0 := K.cell 0 _ rfl
  have c1 := K.cell 1 _ rfl
  have c2 := K.cell 2 _ rfl
  have c3 := K.cell 3 _ rfl
  have HB := Lib.hid (clBl w 3 p A n c s)
  have HF : Hid (rqC 3 p s zs.length = 1) := Lib.hid (by unfold rqC; rw [if_neg (by omega), if_neg (by omega), if_pos (.inl (by unfold polB; simp; omega))])
  clear K
  have d1 : decide (p < 0) = true := by simpa using hp
  go_enter Try.func45, Try.ntmps45
  go_wp2
  go_ret2
  exact reqE_no 1 HF.out (by omega) ⟨rfl, HB.out⟩
theorem drq_ph3 (w : World) (p s : Int) (A : Option Addr) (n c : Nat) (zs : List Nat) (hp : 32 ≤ p) : Calls Try.prog 45 #[ClA 3 p A n c s] w (ReqE w 3 p s zs) := by
  have K := clK w 3 p A n c s
  have c0 := K.cell 0 _ rfl
  have c1 := K.cell 1 _ rfl
  have c2 := K.cell 2 _ rfl
  have c3 := K.cell 3 _ rfl
  have HB := Lib.hid (clBl w 3 p A n c s)
  have HF : Hid (rqC 3 p s zs.length = 1) := Lib.hid (by unfold rqC; rw [if_neg (by omega), if_neg (by omega), if_pos (.inl (by unfold polB; simp; omega))])
  clear K
  have d1 : decide (p < 0) = false := decide_eq_false (by omega)
  have d2 : decide (32 ≤ p) = true := by simpa using hp
  go_enter Try.func45, Try.ntmps45
  go_wp2
  go_ret2
  exact reqE_no 1 HF.out (by omega) ⟨rfl, HB.out⟩
theorem drq_nl3 (w : World) (p s : Int) (A : Option Addr) (n c : Nat) (zs : List Nat) (h0 : 0 ≤ p) (h1 : p < 32) (hs : s < 1) : Calls Try.prog 45 #[ClA 3 p A n c s] w (ReqE w 3 p s zs) := by
  have K := clK w 3 p A n c s
  have c0 := K.cell 0 _ rfl
  have c1 := K.cell 1 _ rfl
  have c2 := K.cell 2 _ rfl
  have c3 := K.cell 3 _ rfl
  have HB := Lib.hid (clBl w 3 p A n c s)
  have d1 : decide (p < 0) = false := decide_eq_false (by omega)
  have d2 : decide (32 ≤ p) = false := decide_eq_false (by omega)
  have e1 : decide (s < 1) = true := by simpa using hs
  have HF : Hid (rqC 3 p s zs.length = 1) := Lib.hid (by unfold rqC; rw [if_neg (by omega), if_neg (by omega), if_pos (.inr (.inr ⟨rfl, by unfold serB; simp; omega⟩))])
  clear K
  go_enter Try.func45, Try.ntmps45
  go_wp2
  go_ret2
  exact reqE_no 1 HF.out (by omega) ⟨rfl, HB.out⟩
theorem drq_nh3 (w : World) (p s : Int) (A : Option Addr) (n c : Nat) (zs : List Nat) (h0 : 0 ≤ p) (h1 : p < 32) (hs : 4611686018427387903 < s) : Calls Try.prog 45 #[ClA 3 p A n c s] w (ReqE w 3 p s zs) := by
  have K := clK w 3 p A n c s
  have c0 := K.cell 0 _ rfl
  have c1 := K.cell 1 _ rfl
  have c2 := K.cell 2 _ rfl
  have c3 := K.cell 3 _ rfl
  have HB := Lib.hid (clBl w 3 p A n c s)
  have d1 : decide (p < 0) = false := decide_eq_false (by omega)
  have d2 : decide (32 ≤ p) = false := decide_eq_false (by omega)
  have e1 : decide (s < 1) = false := by simp; omega
  have e2 : decide (4611686018427387903 < s) = true := by simpa using hs
  have HF : Hid (rqC 3 p s zs.length = 1) := Lib.hid (by unfold rqC; rw [if_neg (by omega), if_neg (by omega), if_pos (.inr (.inr ⟨rfl, by unfold serB; simp; omega⟩))])
  clear K
  go_enter Try.func45, Try.ntmps45
  go_wp2
  go_ret2
  exact reqE_no 1 HF.out (by omega) ⟨rfl, HB.out⟩
theorem drq_l3 (w : World) (p s : Int) (A : Option Addr) (n c : Nat) (zs : List Nat) (hl : zs.length = n) (h0 : 0 ≤ p) (h1 : p < 32) (hs : 1 ≤ s) (hs2 : s ≤ 4611686018427387903) (hn : 255 < n) : Calls Try.prog 45 #[ClA 3 p A n c s] w (ReqE w 3 p s zs) := by
  have K := clK w 3 p A n c s
  have c0 := K.cell 0 _ rfl
  have c1 := K.cell 1 _ rfl
  have c2 := K.cell 2 _ rfl
  have c3 := K.cell 3 _ rfl
  have HB := Lib.hid (clBl w 3 p A n c s)
  have d1 : decide (p < 0) = false := decide_eq_false (by omega)
  have d2 : decide (32 ≤ p) = false := decide_eq_false (by omega)
  have hx : ¬ (polB p = false ∨ (3 = 1 ∧ tkB s = false) ∨ (3 = 3 ∧ serB s = false)) := by
    have : polB p = true := by unfold polB; simp; omega
    rw [this]
    have : serB s = true := by unfold serB; simp; omega
    rw [this]; simp
  have HF : Hid (rqC 3 p s zs.length = 2) := Lib.hid (by unfold rqC; rw [if_neg (by omega), if_neg (by omega), if_neg hx, if_pos (by omega)])
  have d3 : decide ((255 : Int) < (n : Int)) = true := by simp; omega
  clear K hx
  have e1 : decide (s < 1) = false := by simp; omega
  have e2 : decide (4611686018427387903 < s) = false := by simp; omega
  go_enter Try.func45, Try.ntmps45
  go_wp2
  go_ret2
  exact reqE_no 2 HF.out (by omega) ⟨rfl, HB.out⟩
set_option maxHeartbeats 1600000 in
theorem drq_g3 (w : World) (B p s : Nat) (A : Option Addr) (n c : Nat) (zs : List Nat) (h : Arg w B A n c zs) (hB : B ≤ w.heap.size) (h1 : p < 32) (hs : 1 ≤ s) (hs2 : s ≤ 4611686018427387903) (hn : n ≤ 255) : Calls Try.prog 45 #[ClA 3 p A n c s] w (ReqE w 3 p s zs) := by
  have K := clK w 3 p A n c s
  have c0 := K.cell 0 _ rfl
  have c1 := K.cell 1 _ rfl
  have c2 := K.cell 2 _ rfl
  have c3 := K.cell 3 _ rfl
  have HB := Lib.hid (clBl w 3 p A n c s)
  have d1 : decide ((p : Int) < 0) = false := decide_eq_false (by omega)
  have d2 : decide (32 ≤ (p : Int)) = false := decide_eq_false (by omega)
  have hx : ¬ (polB (p : Int) = false ∨ (3 = 1 ∧ tkB (s : Int) = false) ∨ (3 = 3 ∧ serB (s : Int) = false)) := by
    have : polB (p : Int) = true := by unfold polB; simp; omega
    rw [this]
    have : serB (s : Int) = true := by unfold serB; simp; omega
    rw [this]; simp
  have hl := h.len
  have HF : Hid (rqC 3 (p : Int) (s : Int) zs.length = 0) := Lib.hid (by unfold rqC; rw [if_neg (by omega), if_neg (by omega), if_neg hx, if_neg (by omega)])
  have d3 : decide ((255 : Int) < (n : Int)) = false := by simp; omega
  have e1 : decide ((s : Int) < 1) = false := by simp; omega
  have e2 : decide (4611686018427387903 < (s : Int)) = false := by simp; omega
  have HC := Lib.hid (rq_3 (clW w 3 p A n c s) B p s A n c zs (h.below ((clBl w 3 p A n c s).mono hB)) (by simp; omega) h1 hn hs2 hs)
  clear K hx h
  go_enter Try.func45, Try.ntmps45
  go_wp2_with fail
  with_reducible refine (HC.out).mono ?_
  rintro e w1 ⟨A1, d1, rfl, ho1, hb1⟩
  have HE := Lib.hid (And.intro (ho1.mono (B' := w.heap.size) (by simp)) (HB.out.trans (hb1.mono (by simp))))
  clear ho1 hb1
  go_wp2
  go_ret2
  exact reqE_yes HF.out (by unfold rqB; rw [if_neg (by omega), if_pos rfl]; rfl) ⟨A1, d1, rfl, HE.out.1, HE.out.2⟩
theorem drq_pl4 (w : World) (p s : Int) (A : Option Addr) (n c : Nat) (zs : List Nat) (hp : p < 0) : Calls Try.prog 45 #[ClA 4 p A n c s] w (ReqE w 4 p s zs) := by
  have K := clK w 4 p A n c s
  have c0 := K.cell 0 _ rfl
  have c1 := K.cell 1 _ rfl
  have c2 := K.cell 2 _ rfl
  have c3 := K.cell 3 _ rfl
  have HB := Lib.hid (clBl w 4 p A n c s)
  have HF : Hid (rqC 4 p s zs.length = 1) := Lib.hid (by unfold rqC; rw [if_neg (by omega), if_neg (by omega), if_pos (.inl (by unfold polB; simp; omega))])
  clear K
  have d1 : decide (p < 0) = true := by simpa using hp
  go_enter Try.func45, Try.ntmps45
  go_wp2
  go_ret2
  exact reqE_no 1 HF.out (by omega) ⟨rfl, HB.out⟩
theorem drq_ph4 (w : World) (p s : Int) (A : Option Addr) (n c : Nat) (zs : List Nat) (hp : 32 ≤ p) : Calls Try.prog 45 #[ClA 4 p A n c s] w (ReqE w 4 p s zs) := by
  have K := clK w 4 p A n c s
  have c0 := K.cell 0 _ rfl
  have c1 := K.cell 1 _ rfl
  have c2 := K.cell 2 _ rfl
  have c3 := K.cell 3 _ rfl
  have HB := Lib.hid (clBl w 4 p A n c s)
  have HF : Hid (rqC 4 p s zs.length = 1) := Lib.hid (by unfold rqC; rw [if_neg (by omega), if_neg (by omega), if_pos (.inl (by unfold polB; simp; omega))])
  clear K
  have d1 : decide (p < 0) = false := decide_eq_false (by omega)
  have d2 : decide (32 ≤ p) = true := by simpa using hp
  go_enter Try.func45, Try.ntmps45
  go_wp2
  go_ret2
  exact reqE_no 1 HF.out (by omega) ⟨rfl, HB.out⟩
theorem drq_l4 (w : World) (p s : Int) (A : Option Addr) (n c : Nat) (zs : List Nat) (hl : zs.length = n) (h0 : 0 ≤ p) (h1 : p < 32) (hn : 255 < n) : Calls Try.prog 45 #[ClA 4 p A n c s] w (ReqE w 4 p s zs) := by
  have K := clK w 4 p A n c s
  have c0 := K.cell 0 _ rfl
  have c1 := K.cell 1 _ rfl
  have c2 := K.cell 2 _ rfl
  have c3 := K.cell 3 _ rfl
  have HB := Lib.hid (clBl w 4 p A n c s)
  have d1 : decide (p < 0) = false := decide_eq_false (by omega)
  have d2 : decide (32 ≤ p) = false := decide_eq_false (by omega)
  have hx : ¬ (polB p = false ∨ (4 = 1 ∧ tkB s = false) ∨ (4 = 3 ∧ serB s = false)) := by
    have : polB p = true := by unfold polB; simp; omega
    rw [this]
    simp
  have HF : Hid (rqC 4 p s zs.length = 2) := Lib.hid (by unfold rqC; rw [if_neg (by omega), if_neg (by omega), if_neg hx, if_pos (by omega)])
  have d3 : decide ((255 : Int) < (n : Int)) = true := by simp; omega
  clear K hx
  go_enter Try.func45, Try.ntmps45
  go_wp2
  go_ret2
  exact reqE_no 2 HF.out (by omega) ⟨rfl, HB.out⟩
set_option maxHeartbeats 1600000 in
theorem drq_g4 (w : World) (B p : Nat) (s : Int) (A : Option Addr) (n c : Nat) (zs : List Nat) (h : Arg w B A n c zs) (hB : B ≤ w.heap.size) (h1 : p < 32) (hn : n ≤ 255) : Calls Try.prog 45 #[ClA 4 p A n c s] w (ReqE w 4 p s zs) := by
  have K := clK w 4 p A n c s
  have c0 := K.cell 0 _ rfl
  have c1 := K.cell 1 _ rfl
  have c2 := K.cell 2 _ rfl
  have c3 := K.cell 3 _ rfl
  have HB := Lib.hid (clBl w 4 p A n c s)
  have d1 : decide ((p : Int) < 0) = false := decide_eq_false (by omega)
  have d2 : decide (32 ≤ (p : Int)) = false := decide_eq_false (by omega)
  have hx : ¬ (polB (p : Int) = false ∨ (4 = 1 ∧ tkB (s : Int) = false) ∨ (4 = 3 ∧ serB (s : Int) = false)) := by
    have : polB (p : Int) = true := by unfold polB; simp; omega
    rw [this]
    simp
  have hl := h.len
  have HF : Hid (rqC 4 (p : Int) (s : Int) zs.length = 0) := Lib.hid (by unfold rqC; rw [if_neg (by omega), if_neg (by omega), if_neg hx, if_neg (by omega)])
  have d3 : decide ((255 : Int) < (n : Int)) = false := by simp; omega
  have HC := Lib.hid (rq_4 (clW w 4 p A n c s) B p s A n c zs (h.below ((clBl w 4 p A n c s).mono hB)) (by simp; omega) h1 hn)
  clear K hx h
  go_enter Try.func45, Try.ntmps45
  go_wp2_with fail
  with_reducible refine (HC.out).mono ?_
  rintro e w1 ⟨A1, d1, rfl, ho1, hb1⟩
  have HE := Lib.hid (And.intro (ho1.mono (B' := w.heap.size) (by simp)) (HB.out.trans (hb1.mono (by simp))))
  clear ho1 hb1
  go_wp2
  go_ret2
  exact reqE_yes HF.out (by unfold rqB; rw [if_neg (by omega), if_neg (by omega), if_pos (by omega)]; rfl) ⟨A1, d1, rfl, HE.out.1, HE.out.2⟩
theorem drq_5 (w : World) (p s : Int) (A : Option Addr) (n c : Nat) (zs : List Nat) : Calls Try.prog 45 #[ClA 5 p A n c s] w (ReqE w 5 p s zs) := by
  have K := clK w 5 p A n c s
  have c0 := K.cell 0 _ rfl
  have c1 := K.cell 1 _ rfl
  have c2 := K.cell 2 _ rfl
  have c3 := K.cell 3 _ rfl
  have HB := Lib.hid (clBl w 5 p A n c s)
  have HC := Lib.hid (rq_5 (clW w 5 p A n c s) p s A n c)
  clear K
  go_enter Try.func45, Try.ntmps45
  go_wp2_with fail
  with_reducible refine (HC.out).mono ?_
  rintro e w1 ⟨A1, d1, rfl, ho1, hb1⟩
  have HE := Lib.hid (And.intro (ho1.mono (B' := w.heap.size) (by simp)) (HB.out.trans (hb1.mono (by simp))))
  clear ho1 hb1
  go_wp2
  go_ret2
  exact reqE_yes rfl rfl ⟨A1, d1, rfl, HE.out.1, HE.out.2⟩
theorem drq_6 (w : World) (p s : Int) (A : Option Addr) (n c : Nat) (zs : List Nat) : Calls Try.prog 45 #[ClA 6 p A n c s] w (ReqE w 6 p s zs) := by
  have K := clK w 6 p A n c s
  have c0 := K.cell 0 _ rfl
  have c1 := K.cell 1 _ rfl
  have c2 := K.cell 2 _ rfl
  have c3 := K.cell 3 _ rfl
  have HB := Lib.hid (clBl w 6 p A n c s)
  have HC := Lib.hid (rq_6 (clW w 6 p A n c s) p s A n c)
  clear K
  go_enter Try.func45, Try.ntmps45
  go_wp2_with fail
  with_reducible refine (HC.out).mono ?_
  rintro e w1 ⟨A1, d1, rfl, ho1, hb1⟩
  have HE := Lib.hid (And.intro (ho1.mono (B' := w.heap.size) (by simp)) (HB.out.trans (hb1.mono (by simp))))
  clear ho1 hb1
  go_wp2
  go_ret2
  exact reqE_yes rfl rfl ⟨A1, d1, rfl, HE.out.1, HE.out.2⟩
end Go.Proofs.Ytndgladfcogiiaa
