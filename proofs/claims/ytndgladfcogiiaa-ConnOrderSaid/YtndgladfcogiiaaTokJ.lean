/- Contract: Decode of the program, whole. -/
import Derived.Test.YtndgladfcogiiaaTokI
namespace Go.Proofs.Ytndgladfcogiiaa
open Go.RowKit
set_option maxRecDepth 100000
set_option linter.unusedVariables false

theorem dSer_lt {zs : List Nat} (h : ∀ d ∈ zs, d < 256) : dSer zs < 18446744073709551616 := by
  have h1 := Tk.numV_lt (l := (zs.drop (4 + zs.getD 3 0)).take 8) (fun d hd => h d (List.mem_of_mem_drop (List.mem_of_mem_take hd)))
  have h2 : ((zs.drop (4 + zs.getD 3 0)).take 8).length ≤ 8 := by simp; omega
  exact Nat.lt_of_lt_of_le h1 (Nat.le_trans (Nat.pow_le_pow_right (by omega) h2) (by decide))

theorem wrap_small {x : Nat} (h : x ≤ 4611686018427387903) : IntKind.i64.wrap (x : Int) = (x : Int) := IntWalk.i64_in _ (by omega)
theorem wrap_not {x : Nat} (h : x < 18446744073709551616) (h' : 4611686018427387903 < x) : ¬ (1 ≤ IntKind.i64.wrap (x : Int) ∧ IntKind.i64.wrap (x : Int) ≤ 4611686018427387903) := by
  rintro ⟨h1, h2⟩
  rcases Nat.lt_or_ge x 9223372036854775808 with h3 | h3
  · rw [IntWalk.i64_in _ (by omega)] at h2; omega
  · have e : IntKind.i64.wrap (x : Int) = (x : Int) - 18446744073709551616 := by
      unfold IntKind.wrap
      simp [IntKind.signed, IntKind.bits]
      omega
    rw [e] at h1; omega

/-- parts at any world above, where the form is right. -/
theorem parts_at (w : World) (B : Nat) (A : Option Addr) (n c : Nat) (zs : List Nat) (h : Arg w B A (n + 16) c zs) (hB : B ≤ w.heap.size) (h3 : zs.getD 3 0 = n) :
    Hid (∀ w', Below w.heap.size w w' → Calls Try.prog 74 #[.slice A (n + 16) c] w' (PartsEnd w' (zs.getD 2 0) (IntKind.i64.wrap (dSer zs : Nat)) (dKey zs) n)) := by
  refine Lib.hid fun w' hb => ?_
  have := parts7_good w' w.heap.size A n c (zs.getD 2 0) zs ((h.more hB).below hb) hb.size h3 rfl
  unfold dKey dSer
  rw [h3]
  exact this

theorem decode_good (w : World) (B : Nat) (A : Option Addr) (m c : Nat) (zs : List Nat) (h : Arg w B A m c zs) (hB : B ≤ w.heap.size) (hok : decOk zs) :
    Calls Try.prog 25 #[.slice A m c] w (TokEnd w (zs.getD 2 0) (dSer zs) (dKey zs) (zs.getD 3 0)) := by
  obtain ⟨hl, hp, hs1, hs2, he⟩ := hok
  have hn := h.lt 3
  obtain rfl : m = zs.getD 3 0 + 16 := by rw [← hl]; exact h.len.symm
  have HP := parts_at w B A _ c zs h hB rfl
  rw [wrap_small hs2] at HP
  exact decode_same w B A _ c _ _ (dKey zs) zs h hB (by omega) HP (dSer zs) rfl hp hs1 hs2 (Lib.hid (decide_eq_true he))

theorem decode_bad (w : World) (B : Nat) (A : Option Addr) (m c : Nat) (zs : List Nat) (h : Arg w B A m c zs) (hB : B ≤ w.heap.size) (hm : m ≤ 4096) (hok : ¬ decOk zs) :
    Calls Try.prog 25 #[.slice A m c] w (ValEnd w (.tuple #[Tok0, .int .i64 3])) := by
  rcases Nat.lt_or_ge m 4 with h4 | h4
  · exact decode_no w A m c hm (Lib.hid fun w' _ => parts7_short w' A m c h4)
  by_cases hl : m = zs.getD 3 0 + 16
  · subst hl
    have hn := h.lt 3
    have hd := dSer_lt h.byte
    have HP := parts_at w B A _ c zs h hB rfl
    by_cases hg : zs.getD 2 0 < 32 ∧ 1 ≤ dSer zs ∧ dSer zs ≤ 4611686018427387903
    · obtain ⟨hp, hs1, hs2⟩ := hg
      rw [wrap_small hs2] at HP
      refine decode_other w B A _ c _ _ (dKey zs) zs h hB (by omega) HP (dSer zs) rfl hp hs1 hs2 (Lib.hid (decide_eq_false fun e => hok ⟨h.len, hp, hs1, hs2, e⟩))
    · refine decode_fault w B A _ c _ _ (dKey zs) zs h hB (by omega) HP (Lib.hid fun w A1 c1 => encode_bad w _ _ A1 _ c1 (Lib.hid ?_))
      by_cases hp : zs.getD 2 0 < 32
      · have : ¬ (1 ≤ IntKind.i64.wrap (dSer zs : Int) ∧ IntKind.i64.wrap (dSer zs : Int) ≤ 4611686018427387903) := by
          rcases Nat.lt_or_ge 4611686018427387903 (dSer zs) with h5 | h5
          · exact wrap_not hd h5
          · rw [wrap_small h5]; omega
        rw [Bool.and_eq_false_iff]
        right
        rw [Bool.and_eq_false_iff, decide_eq_false_iff_not, decide_eq_false_iff_not]
        omega
      · rw [Bool.and_eq_false_iff]
        left
        rw [Bool.and_eq_false_iff, decide_eq_false_iff_not, decide_eq_false_iff_not]
        omega
  · exact decode_no w A m c hm (Lib.hid fun w' hb => parts7_shape w' w.heap.size A m c _ zs ((h.more hB).below hb) hb.size h4 rfl hl)
end Go.Proofs.Ytndgladfcogiiaa
