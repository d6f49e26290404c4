/- Contract: the law's awake of layer 7. -/
import Derived.Test.YtlkkldegbopnpaaTokL
import Derived.Test.YtlkkldegbopnpaaHexD
namespace Go.Proofs.Ytlkkldegbopnpaa
open Go.RowKit
set_option maxRecDepth 100000
set_option linter.unusedVariables false

theorem OwnB.at0 {w : World} {B n c : Nat} {A : Option Addr} {xs : List Nat} (h : OwnB w B A n c xs) (hn : 0 < n) : ∃ g, A = some ⟨g, 0, none⟩ ∧ g < w.heap.size ∧ ∀ k, k < n → w.cell? ⟨g, k, none⟩ = some (.int .u8 (xs.getD k 0 : Nat)) := by
  have ha := h.arg
  rcases h.1.2 with ⟨h1, h2⟩ | ⟨g, cap, cur, h1, _⟩
  · omega
  · simp only [Value.slice.injEq, true_and] at h1
    obtain ⟨rfl, rfl⟩ := h1
    obtain ⟨b, off, e2, hb, hc⟩ := ha.at_ hn
    simp only [Option.some.injEq, Addr.mk.injEq, and_true] at e2
    obtain ⟨rfl, rfl⟩ := e2
    exact ⟨g, rfl, hb, fun k hk => by rw [← hc k hk, Nat.zero_add]⟩

abbrev blkK : Obj := .cells #[.int .u8 107] 5 (1, 2)
abbrev blkX : Obj := .cells #[.int .u8 26] 5

theorem aw_enc (w : World) : Calls Try.prog 17 #[.agg #[.int .i64 1, .slice (some ⟨w.heap.size, 0, none⟩) 1 1, .int .i64 258]] (w.alloc blkK)
    fun e w' => ∃ A c, e = .returned (.tuple #[.slice A 17 c, .int .i64 0]) ∧ OwnB w' w.heap.size A 17 c (tokV 1 [107] 258) ∧ Below w.heap.size w w' :=
  (encode_good (w.alloc blkK) (w.heap.size + 1) 1 258 (some ⟨w.heap.size, 0, none⟩) 1 1 [107] (lit1 w 107 _ (by omega)) (by simp) (by omega) (by omega) (by omega) (by omega)).mono
    fun _ _ ⟨A, c, e, ho, hb⟩ => ⟨A, c, e, ho.mono (by simp), ((Below.refl _ w).alloc (Nat.le_refl _) blkK).trans (hb.mono (by simp))⟩

theorem aw_dec (w : World) (B : Nat) (A : Option Addr) (c : Nat) (h : Arg w B A 17 c (tokV 1 [107] 258)) (hB : B ≤ w.heap.size) : Calls Try.prog 21 #[.slice A 17 c] w
    fun e w' => ∃ A c, e = .returned (.tuple #[.agg #[.int .i64 1, .slice A 1 c, .int .i64 258], .int .i64 0]) ∧ OwnB w' w.heap.size A 1 c [107] ∧ Below w.heap.size w w' :=
  decode_enc w B A 1 17 c 1 258 [107] h hB rfl (by omega) (by omega) (by omega)

theorem aw_hex (w : World) : Calls Try.prog 26 #[.slice (some ⟨w.heap.size, 0, none⟩) 1 1] (w.alloc blkX)
    fun e w' => e = .returned (.string ⟨#[49, 97]⟩) ∧ Below w.heap.size w w' :=
  (hex_any (w.alloc blkX) (w.heap.size + 1) (some ⟨w.heap.size, 0, none⟩) 1 1 [26] (lit1 w 26 _ (by omega)) (by simp) (by omega)).mono
    fun _ _ ⟨e, hb⟩ => ⟨e, ((Below.refl _ w).alloc (Nat.le_refl _) blkX).trans (hb.mono (by simp))⟩

theorem aw_same7 (w : World) (B : Nat) (A : Option Addr) (c : Nat) (h : Arg w B A 1 c [107]) (hB : B ≤ w.heap.size) : Calls Try.prog 22 #[.agg #[.int .i64 1, .slice A 1 c, .int .i64 258], .agg #[.int .i64 1, .slice (some ⟨w.heap.size, 0, none⟩) 1 1, .int .i64 258]] (w.alloc blkK)
    fun e w' => e = .returned (.bool true) ∧ Below w.heap.size w w' :=
  (same7_any (w.alloc blkK) w.heap.size (w.heap.size + 1) A (some ⟨w.heap.size, 0, none⟩) 1 c 1 1 [107] [107] 1 1 258 258 true (Lib.hid rfl) ((h.more hB).below ((Below.refl _ w).alloc (Nat.le_refl _) blkK)) (lit1 w 107 _ (by omega)) (by simp) (by simp)).mono
    fun _ _ ⟨e, hb⟩ => ⟨e, ((Below.refl _ w).alloc (Nat.le_refl _) blkK).trans (hb.mono (by simp))⟩

theorem aw_same8 (w : World) (A : Option Addr) (c : Nat) {B : Nat} (h : OwnB w B A 1 c [107]) : Calls Try.prog 22 #[.agg #[.int .i64 1, .slice A 1 c, .int .i64 258], .agg #[.int .i64 1, .slice (some ⟨w.heap.size + 1, 0, none⟩) 1 1, .int .i64 258]] ((w.alloc (.cells #[.int .i64 1, .slice A 1 c, .int .i64 258] 24)).alloc blkK)
    fun e w' => e = .returned (.bool true) ∧ Below w.heap.size w w' := by
  have b := (Below.refl w.heap.size w).alloc (Nat.le_refl _) (.cells #[.int .i64 1, .slice A 1 c, .int .i64 258] 24)
  have hs := aw_same7 (w.alloc (.cells #[.int .i64 1, .slice A 1 c, .int .i64 258] 24)) _ A c (h.below b).arg (Nat.le_refl _)
  simp only [World.size_alloc] at hs
  exact hs.mono fun _ _ ⟨e, hb⟩ => ⟨e, b.trans (hb.mono (by omega))⟩

set_option maxHeartbeats 1600000 in
theorem awake7_any (w : World) : Calls Try.prog 15 #[] w (ValEnd w (.bool true)) := by
  have kc := fun (w : World) (C : Array Value) (n c : Nat) => Lib.run_convert_bytes_const (P := Try.prog) w 22 5 C n c Try.underlying22 Try.underlying5
  have kc2 := fun (w : World) (o : Obj) (C : Array Value) (n c : Nat) => World.size_alloc w o ▸ kc (w.alloc o) C n c
  go_enter Try.func15, Try.ntmps15
  go_wp2_with fail
  with_reducible refine (aw_enc w).mono ?_
  rintro e w1 ⟨A1, c1, rfl, ho, hb⟩
  have HO1 := Lib.hid ho
  have HB1 := Lib.hid hb
  have hs1 := hb.size
  clear ho hb
  go_wp2_with fail
  with_reducible refine (aw_dec w1 _ A1 c1 HO1.out.arg (Nat.le_refl _)).mono ?_
  rintro e w2 ⟨A2, c2, rfl, ho2, hb2⟩
  have h1x := HO1.out.below hb2
  have hb2' := HB1.out.trans (hb2.mono hs1)
  have hs2 := hb2'.size
  have HB2 := Lib.hid hb2'
  have HS := Lib.hid (aw_same8 w2 A2 c2 ho2)
  obtain ⟨g, rfl, hg, hcg⟩ := h1x.at0 (by omega)
  have q0 : w2.cell? ⟨g, 0, none⟩ = some (.int .u8 83) := hcg 0 (by omega)
  have q1 : w2.cell? ⟨g, 1, none⟩ = some (.int .u8 71) := hcg 1 (by omega)
  have q2 : w2.cell? ⟨g, 2, none⟩ = some (.int .u8 1) := hcg 2 (by omega)
  have q3 : w2.cell? ⟨g, 3, none⟩ = some (.int .u8 1) := hcg 3 (by omega)
  have q4 : w2.cell? ⟨g, 4, none⟩ = some (.int .u8 107) := hcg 4 (by omega)
  have q11 : w2.cell? ⟨g, 11, none⟩ = some (.int .u8 1) := hcg 11 (by omega)
  have q12 : w2.cell? ⟨g, 12, none⟩ = some (.int .u8 2) := hcg 12 (by omega)
  clear hcg h1x hb2' hb2 ho2
  go_wp2_with fail
  with_reducible refine HS.out.mono ?_
  rintro e w3 ⟨rfl, hb3⟩
  have HB3 := Lib.hid (HB2.out.trans (hb3.mono hs2))
  have hs3 := HB3.out.size
  clear hb3 q0 q1 q2 q3 q4 q11 q12
  go_wp2_with fail
  with_reducible refine (aw_hex w3).mono ?_
  rintro e w4 ⟨rfl, hb4⟩
  have HB4 := Lib.hid (HB3.out.trans (hb4.mono hs3))
  clear hb4
  go_wp2
  go_ret
  exact ⟨rfl, HB4.out⟩
end Go.Proofs.Ytlkkldegbopnpaa
