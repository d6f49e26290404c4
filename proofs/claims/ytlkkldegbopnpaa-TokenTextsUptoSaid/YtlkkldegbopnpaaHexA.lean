/- Contracts: WriteByte; Hex, by the program and by the document. -/
import Derived.Test.YtlkkldegbopnpaaHexM
import Derived.Test.YtlkkldegbopnpaaShelf
import Derived.Test.YtlkkldegbopnpaaTokF
import Derived.Outline
namespace Go.Proofs.Ytlkkldegbopnpaa
open Go.RowKit
set_option maxRecDepth 100000
set_option linter.unusedVariables false

theorem builder_info : ∃ j, Try.prog.info? 105 = some j := by
  have : (Try.prog.info? 105).isSome = true := by kernel_rfl
  exact Option.isSome_iff_exists.1 this
theorem copyCheck_self (w : World) (b : Nat) (hc : w.cell? ⟨b, 0, none⟩ = some (.pointer (some ⟨b, 0, none⟩))) :
    Calls Try.prog 90 #[.pointer (some ⟨b, 0, none⟩)] w fun e w' => e = .returned (.tuple #[]) ∧ w = w' := by
  obtain ⟨j, hj⟩ := builder_info
  have hne := fun w : World => Lib.run_neq_ptr_same (P := Try.prog) (w := w) ⟨b, 0, none⟩ Try.underlying103 hj
  go_enter Try.func90, Try.ntmps90
  go_wp2
  go_end0
  exact ⟨rfl, rfl⟩

abbrev BAt (B b : Nat) (xs : List Nat) (w : World) : Prop := Lib.BuilderAt 105 5 B b (.pointer (some ⟨b, 0, none⟩)) (xs.map V8) w

set_option maxHeartbeats 800000 in
theorem writeByte_any (w : World) (B b c : Nat) (xs : List Nat) (h : BAt B b xs w) (hlen : xs.length + 1 ≤ 140737488355328) (hBw : B ≤ w.heap.size) :
    Calls Try.prog 63 #[.pointer (some ⟨b, 0, none⟩), .int .u8 (c : Int)] w fun e w' => e = .returned .nilIface ∧ BAt B b (xs ++ [c]) w' ∧ Below B w w' := by
  obtain ⟨i0, hi, hz0, hz1, hz2⟩ := info_parts u8_info
  obtain ⟨hB, v, hbk, hown, hne⟩ := h
  have c0 : w.cell? ⟨b, 0, none⟩ = some (.pointer (some ⟨b, 0, none⟩)) := by rw [Lib.cell_of_heap hbk]; rfl
  have c1 : w.cell? ⟨b, 1, none⟩ = some v := by rw [Lib.cell_of_heap hbk]; rfl
  have hl : (xs.map V8).length = xs.length := by simp
  rw [hl] at hown
  have HOWN := Lib.hid hown
  have HBK := Lib.hid hbk
  have HNE := Lib.hid hne
  have hlt : b < w.heap.size := by
    rcases Nat.lt_or_ge b w.heap.size with h' | h'
    · exact h'
    · simp [Array.getElem?_eq_none h'] at hbk
  clear hbk hown hne hl
  go_enter Try.func63, Try.ntmps63
  go_wp2_with fail
  with_reducible refine (copyCheck_self _ b c0).mono ?_
  rintro e w1 ⟨rfl, rfl⟩
  go_wp2_with (at_builtin; refine wpList_append_own _ rfl _ _ 22 rfl B 5 i0 (.int .u8 0) 1 1 Try.underlying22 hi hz0 hz1 hz2 rfl (by decide) _ _ _ rfl (HOWN.out.alloc _) ⟨w.heap.size, 0, none⟩ 1 1 [.int .u8 (c : Int)] rfl rfl ?c1 ?c2 ?c3 ?c4 ?c5 ?_)
  case c1 =>
    intro j u hj
    match j, hj with
    | 0, hj => simp at hj; subst hj; simp [Addr.add]
  case c2 => intro u hu; simp at hu; subst hu; rfl
  case c3 => unfold maxLen; omega
  case c4 => omega
  case c5 => simp; omega
  intro v' w2 hown' hgrow _
  have hb2 : w2.heap[b]? = some (.cells #[.pointer (some ⟨b, 0, none⟩), v] 105 (0, 0)) := by
    rw [hgrow.block b (by simp; omega) (fun e => HNE.out e.symm), Lib.alloc_old w _ b hlt]
    exact HBK.out
  have d0 : w2.cell? ⟨b, 0, none⟩ = some (.pointer (some ⟨b, 0, none⟩)) := by rw [Lib.cell_of_heap hb2]; rfl
  have d1 : w2.cell? ⟨b, 1, none⟩ = some v := by rw [Lib.cell_of_heap hb2]; rfl
  have f1 : w2.frozen? ⟨b, 1, none⟩ = false := Lib.frozen_of_heap hb2 1
  obtain ⟨g, cap, rfl⟩ : ∃ g cap, v' = .slice (some ⟨g, 0, none⟩) (xs.length + 1) cap := by
    rcases hown'.2 with ⟨_, h0⟩ | ⟨g, cap, cur, hv, _⟩
    · omega
    · exact ⟨g, cap, hv⟩
  have hbel := ((Below.refl B w).alloc (by omega) (.cells #[.int .u8 (c : Int)] 5)).grown hgrow (by simp; omega) (fun k hk => (HOWN.out.lt k hk).1)
  have HBZ := Lib.hid (hbel.setCell (p := ⟨b, 1, none⟩) hB (.slice (some ⟨g, 0, none⟩) (xs.length + 1) cap))
  have hput := Lib.BuilderAt.put (T := 105) (e := 5) hB hb2 (bs' := (xs ++ [c]).map V8) (v' := .slice (some ⟨g, 0, none⟩) (xs.length + 1) cap) (by simpa [V8] using hown') (by decide)
  have HPUT := Lib.hid hput
  clear hbel hput hb2 hown' hgrow c0 c1
  go_wp2
  go_ret
  exact ⟨rfl, HPUT.out, HBZ.out⟩
end Go.Proofs.Ytlkkldegbopnpaa
