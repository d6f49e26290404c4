/- Contracts: Encode of the program and of the document. -/
import Derived.Test.YtndgladfcogiiaaTokB
namespace Go.Proofs.Ytndgladfcogiiaa
open Go.RowKit
set_option maxRecDepth 100000
set_option linter.unusedVariables false

theorem tokH_len (p : Nat) (zs : List Nat) (s : Nat) : (tokH p zs s).length = zs.length + 12 := by simp [tokH, Tk.wordV_len]
theorem tokH_byte {p : Nat} {zs : List Nat} (s : Nat) (hp : p < 32) (hn : zs.length ≤ 255) (hz : ∀ d ∈ zs, d < 256) : ∀ d ∈ tokH p zs s, d < 256 := by
  intro d hd
  simp only [tokH, List.mem_append, List.mem_cons, List.not_mem_nil, or_false] at hd
  rcases hd with ((h | h | h | h) | h) | h
  · omega
  · omega
  · omega
  · omega
  · exact hz d h
  · exact Tk.wordV_lt _ _ d h

abbrev tokB (p s : Int) (A : Option Addr) (n c : Nat) : List Value := [.int .i64 p, .slice A n c, .int .i64 s]
abbrev TokA (p s : Int) (A : Option Addr) (n c : Nat) : Value := .agg #[.int .i64 p, .slice A n c, .int .i64 s]

theorem append8 (w : World) (B : Nat) (A : Option Addr) (n c x : Nat) (zs : List Nat) (h : OwnB w B A n c zs) (hB : B ≤ w.heap.size) (hx : x < 18446744073709551616) (hn : n ≤ 100000000) :
    Calls Try.prog 71 #[.slice A n c, .int .u64 (x : Int), .int .i64 8] w fun e w' => ∃ A' c', e = .returned (.slice A' (n + 8) c') ∧ OwnB w' B A' (n + 8) c' (zs ++ Tk.wordV x 8) ∧ Below B w w' :=
  appendNumber_any w B A n c x 8 zs h hB hx (by omega) (by omega) hn
theorem append4 (w : World) (B : Nat) (A : Option Addr) (n c x : Nat) (zs : List Nat) (h : OwnB w B A n c zs) (hB : B ≤ w.heap.size) (hx : x < 18446744073709551616) (hn : n ≤ 100000000) :
    Calls Try.prog 71 #[.slice A n c, .int .u64 (x : Int), .int .i64 4] w fun e w' => ∃ A' c', e = .returned (.slice A' (n + 4) c') ∧ OwnB w' B A' (n + 4) c' (zs ++ Tk.wordV x 4) ∧ Below B w w' :=
  appendNumber_any w B A n c x 4 zs h hB hx (by omega) (by omega) hn
theorem word8 (w : World) (x : Nat) (hx : x < 18446744073709551616) :
    Calls Try.prog 84 #[.int .u64 (x : Int), .int .i64 8] w fun e w' => ∃ A' c', e = .returned (.slice A' 8 c') ∧ OwnB w' w.heap.size A' 8 c' (Tk.wordV x 8) ∧ Below w.heap.size w w' := word7_any w x 8 hx (by omega) (by omega)
theorem word4 (w : World) (x : Nat) (hx : x < 18446744073709551616) :
    Calls Try.prog 84 #[.int .u64 (x : Int), .int .i64 4] w fun e w' => ∃ A' c', e = .returned (.slice A' 4 c') ∧ OwnB w' w.heap.size A' 4 c' (Tk.wordV x 4) ∧ Below w.heap.size w w' := word7_any w x 4 hx (by omega) (by omega)

/-- A new slice of bytes and OK. -/
def NewB (w : World) (zs : List Nat) (n : Nat) (e : Ending) (w' : World) : Prop :=
  ∃ A c, e = .returned (.tuple #[.slice A n c, .int .i64 0]) ∧ OwnB w' w.heap.size A n c zs ∧ Below w.heap.size w w'

theorem lit4 (w : World) (a b c d : Nat) (ha : a < 256) (hb : b < 256) (hc : c < 256) (hd : d < 256) : Arg (w.alloc (.cells #[.int .u8 (a : Int), .int .u8 (b : Int), .int .u8 (c : Int), .int .u8 (d : Int)] 5)) (w.heap.size + 1) (some ⟨w.heap.size, 0, none⟩) 4 4 [a, b, c, d] :=
  arg_blk w [a, b, c, d] (0, 0) (by simp; omega) (by simp [maxLen])

theorem ret_sl {A : Option Addr} {n m c : Nat} {x : Int} (h : n = m) : Ending.returned (.tuple #[.slice A n c, .int .i64 x]) = .returned (.tuple #[.slice A m c, .int .i64 x]) := by rw [h]

theorem encode_bad (w : World) (p s : Int) (A : Option Addr) (n c : Nat) (hbad : Hid (((decide (0 ≤ p) && decide (p < 32)) && (decide (1 ≤ s) && decide (s ≤ 4611686018427387903))) = false)) :
    Calls Try.prog 21 #[TokA p s A n c] w (ValEnd w (.tuple #[.slice none 0 0, .int .i64 1])) := by
  obtain ⟨r1, h1⟩ : ∃ r, (decide (0 ≤ p) && decide (p < 32)) = r := ⟨_, rfl⟩
  obtain ⟨r2, h2⟩ : ∃ r, (decide (1 ≤ s) && decide (s ≤ 4611686018427387903)) = r := ⟨_, rfl⟩
  have H1 := Lib.hid h1
  have H2 := Lib.hid h2
  have hb := hbad.out
  rw [h1, h2] at hb
  clear h1 h2 hbad
  cases r1 with
  | false =>
    clear hb
    go_enter Try.func21, Try.ntmps21
    go_wp2_with fail
    with_reducible refine (isPolicy_any _ p false H1).mono ?_
    rintro e w1 ⟨rfl, rfl⟩
    go_wp2
    go_ret2
    exact ⟨rfl, (Below.refl _ _).alloc (Nat.le_refl _) _⟩
  | true =>
    obtain rfl : r2 = false := by simpa using hb
    clear hb
    go_enter Try.func21, Try.ntmps21
    go_wp2_with fail
    with_reducible refine (isPolicy_any _ p true H1).mono ?_
    rintro e w1 ⟨rfl, rfl⟩
    go_wp2_with fail
    with_reducible refine (isSerial_any _ s false H2).mono ?_
    rintro e w1 ⟨rfl, rfl⟩
    go_wp2
    go_ret2
    exact ⟨rfl, (Below.refl _ _).alloc (Nat.le_refl _) _⟩

theorem encode_long (w : World) (p s : Int) (A : Option Addr) (n c : Nat) (h1 : Hid ((decide (0 ≤ p) && decide (p < 32)) = true)) (h2 : Hid ((decide (1 ≤ s) && decide (s ≤ 4611686018427387903)) = true)) (hn : 255 < n) :
    Calls Try.prog 21 #[TokA p s A n c] w (ValEnd w (.tuple #[.slice none 0 0, .int .i64 2])) := by
  go_enter Try.func21, Try.ntmps21
  go_wp2_with fail
  with_reducible refine (isPolicy_any _ p true h1).mono ?_
  rintro e w1 ⟨rfl, rfl⟩
  go_wp2_with fail
  with_reducible refine (isSerial_any _ s true h2).mono ?_
  rintro e w1 ⟨rfl, rfl⟩
  go_wp2
  go_ret2
  exact ⟨rfl, (Below.refl _ _).alloc (Nat.le_refl _) _⟩

set_option maxHeartbeats 1600000 in
theorem encode_good (w : World) (B : Nat) (p s : Nat) (A : Option Addr) (n c : Nat) (zs : List Nat) (h : Arg w B A n c zs) (hB : B ≤ w.heap.size) (hp : p < 32) (hs1 : 1 ≤ s) (hs2 : s ≤ 4611686018427387903) (hn : n ≤ 255) :
    Calls Try.prog 21 #[TokA p s A n c] w (NewB w (tokV p zs s) (n + 16)) := by
  obtain ⟨i0, hi, hz0, hz1, hz2⟩ := info_parts u8_info
  have H1 : Hid ((decide (0 ≤ (p : Int)) && decide ((p : Int) < 32)) = true) := Lib.hid (by simp; omega)
  have H2 : Hid ((decide (1 ≤ (s : Int)) && decide ((s : Int) ≤ 4611686018427387903)) = true) := Lib.hid (by simp; omega)
  have HLEN := Lib.hid h.len
  have HBY := Lib.hid h.byte
  have HA := Lib.hid (h.more hB)
  clear h
  go_enter Try.func21, Try.ntmps21
  go_wp2_with fail
  with_reducible refine (isPolicy_any _ _ true H1).mono ?_
  rintro e w1 ⟨rfl, rfl⟩
  go_wp2_with fail
  with_reducible refine (isSerial_any _ _ true H2).mono ?_
  rintro e w1 ⟨rfl, rfl⟩
  go_wp2_with fail
  with_reducible refine (lenOf_any _ n (by omega)).mono ?_
  rintro e w1 ⟨rfl, rfl⟩
  have K0 := Lib.hid (BlkL.new w (tokB p s A n c) 24)
  have B0 := Lib.hid ((Below.refl w.heap.size w).alloc (Nat.le_refl _) (.cells (tokB p s A n c).toArray 24))
  have HA0 := Lib.hid (HA.out.below ((Below.refl w.heap.size w).alloc (Nat.le_refl _) (.cells (tokB p s A n c).toArray 24)))
  clear HA
  go_wp2_with (refine wpList_make_own _ rfl (.const (.int .i64 0)) (.tmp 22) _ rfl (w.heap.size + 1) 5 i0 (.int .u8 0) 1 Try.underlying22 hi hz0 hz1 .i64 .i64 _ (n + 16) rfl rfl rfl (by rw [hz2]; omega) (by unfold maxLen; omega) (by simp) ?_)
  intro w1 hown1 hgrow1
  have hb1 : Below (w.heap.size + 1) (w.alloc (.cells (tokB p s A n c).toArray 24)) w1 := (Below.refl _ _).grown hgrow1 (by simp) (by simp)
  have HO1 : Hid (OwnB w1 (w.heap.size + 1) (some ⟨w.heap.size + 1, 0, none⟩) 0 (n + 16) []) := Lib.hid ⟨by simpa using hown1, by simp⟩
  have hz1 := hb1.size
  simp only [World.size_alloc] at hz1
  have HB1 := Lib.hid hb1
  have hk1 := K0.out.keep hb1 (by omega)
  have c0 := hk1.cell 0 _ rfl
  have c1 := hk1.cell 1 _ rfl
  have c2 := hk1.cell 2 _ rfl
  have z1 := hk1.lt
  clear hown1 hgrow1 hb1 hk1
  have HL := Lib.hid (lit4 w1 83 71 p n (by omega) (by omega) (by omega) (by omega))
  have HBl := Lib.hid (HB1.out.alloc (by simpa using hz1) (.cells #[.int .u8 (83 : Nat), .int .u8 (71 : Nat), .int .u8 (p : Int), .int .u8 (n : Int)] 5))
  have HOl := Lib.hid (HO1.out.below ((Below.refl _ w1).alloc (Nat.le_refl _) (.cells #[.int .u8 (83 : Nat), .int .u8 (71 : Nat), .int .u8 (p : Int), .int .u8 (n : Int)] 5)))
  go_wp2_with (refine wpList_append_bytes rfl (.tmp 24) (.tmp 32) rfl (w.heap.size + 1) (some ⟨w.heap.size + 1, 0, none⟩) 0 (n + 16) [] rfl HOl.out (w1.heap.size + 1) (some ⟨w1.heap.size, 0, none⟩) 4 4 [83, 71, p, n] rfl HL.out (by omega) (by simp; omega) ?_)
  intro A2 d2 w2 ho2 hb2
  have HO2 : Hid (OwnB w2 (w.heap.size + 1) A2 4 d2 [83, 71, p, n]) := Lib.hid ho2
  have hbb2 := HBl.out.trans hb2
  clear c0 c1 c2 z1 hz1 HB1 HO1 HL HBl HOl ho2 hb2
  have hz2 := hbb2.size
  simp only [World.size_alloc] at hz2
  have hk2 := K0.out.keep hbb2 (by omega)
  have c0 := hk2.cell 0 _ rfl
  have c1 := hk2.cell 1 _ rfl
  have c2 := hk2.cell 2 _ rfl
  have z2 := hk2.lt
  have HA2 := Lib.hid (HA0.out.keep hbb2 (by omega))
  have HB2 := Lib.hid hbb2
  clear hk2 hbb2
  go_wp2_with (refine wpList_append_bytes rfl (.tmp 34) (.tmp 36) rfl (w.heap.size + 1) A2 4 d2 [83, 71, p, n] rfl HO2.out w.heap.size A n c zs rfl HA2.out (by omega) (by omega) ?_)
  intro A3 d3 w3 ho3 hb3
  have hbb3 := HB2.out.trans hb3
  have HO3 := Lib.hid ho3
  clear c0 c1 c2 z2 hz2 HB2 HO2 HA2 hb3 ho3
  have hz3 := hbb3.size
  simp only [World.size_alloc] at hz3
  have hk3 := K0.out.keep hbb3 (by omega)
  have c0 := hk3.cell 0 _ rfl
  have c1 := hk3.cell 1 _ rfl
  have c2 := hk3.cell 2 _ rfl
  have z3 := hk3.lt
  have HB3 := Lib.hid hbb3
  clear hk3 hbb3
  go_wp2_with fail
  with_reducible refine (append8 _ (w.heap.size + 1) A3 (4 + n) d3 s _ HO3.out (by omega) (by omega) (by omega)).mono ?_
  rintro e w4 ⟨A4, d4, rfl, ho4, hb4⟩
  have hbb4 := HB3.out.trans hb4
  have hz4 := hbb4.size
  simp only [World.size_alloc] at hz4
  have ho4' : OwnB w4 (w.heap.size + 1) A4 (4 + n + 8) d4 (tokH p zs s) := by unfold tokH; rw [HLEN.out]; exact ho4
  have HO4 := Lib.hid ho4'
  have HB4 := Lib.hid hbb4
  clear c0 c1 c2 z3 hz3 HB3 HO3 hb4 ho4 ho4' hbb4
  go_wp2_with fail
  with_reducible refine (hsum_any _ w4.heap.size A4 (4 + n + 8) d4 _ HO4.out.arg).mono ?_
  rintro e w5 ⟨rfl, rfl⟩
  have hsl := sumV_lt (tokH p zs s)
  go_wp2_with fail
  with_reducible refine (append4 _ (w.heap.size + 1) A4 (4 + n + 8) d4 (sumV (tokH p zs s)) _ HO4.out (by omega) hsl (by omega)).mono ?_
  rintro e w6 ⟨A6, d6, rfl, ho6, hb6⟩
  have hbb6 := HB4.out.trans hb6
  have ho6' : OwnB w6 w.heap.size A6 (n + 16) d6 (tokV p zs s) := by
    have := ho6.mono (B' := w.heap.size) (by omega)
    rw [show n + 16 = 4 + n + 8 + 4 by omega]
    exact this
  have HO6 := Lib.hid ho6'
  have HB6 := Lib.hid (B0.out.trans (hbb6.mono (by omega)))
  clear hb6 ho6 ho6' hbb6
  go_wp2
  go_ret2
  exact ⟨A6, d6, ret_sl (by omega), HO6.out, HB6.out⟩
end Go.Proofs.Ytndgladfcogiiaa
