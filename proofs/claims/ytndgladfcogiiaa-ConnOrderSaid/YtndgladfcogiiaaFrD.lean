/- Contracts: what waits is moved; the deferred closure of Feed. -/
import Derived.Test.YtndgladfcogiiaaFrC
import Derived.Defers
import Derived.Recover
namespace Go.Proofs.Ytndgladfcogiiaa
open Go.RowKit
set_option maxRecDepth 100000
set_option linter.unusedVariables false

theorem clone_none (w : World) : Calls Try.prog 118 #[.slice none 0 0] w fun e w' => e = .returned (.slice none 0 0) ∧ w = w' := by
  have hnil := fun w : World => Lib.run_eql_slice_nil (P := Try.prog) w 22 5 none 0 0 0 0 Try.underlying22
  go_enter Try.func118, Try.ntmps118
  go_wp2
  go_ret
  exact ⟨rfl, rfl⟩
/-- A copy of some bytes, wide. -/
theorem clone_wide (w : World) (a : Addr) (n c : Nat) (zs : List Nat) (h : Arg w w.heap.size (some a) n c zs) (hn : n ≤ 211106232532992) :
    Calls Try.prog 118 #[.slice (some a) n c] w fun e w' => ∃ A' c', e = .returned (.slice A' n c') ∧ OwnV w' w.heap.size A' n c' (zs.map V8) ∧ Below w.heap.size w w' := by
  obtain ⟨i0, hi, hz0, hz1, hz2⟩ := info_parts u8_info
  have hown0 : OwnV (w.alloc (.cells #[] 5)) w.heap.size (some ⟨w.heap.size, 0, none⟩) 0 0 [] := (OwnB.lit w [] (by simp) rfl (by unfold maxLen; omega) : OwnB (w.alloc (.cells #[] 5)) w.heap.size (some ⟨w.heap.size, 0, none⟩) 0 0 []).ownV
  have HA := Lib.hid (h.below ((Below.refl _ w).alloc (Nat.le_refl _) (.cells #[] 5))).src
  have HO := Lib.hid hown0
  clear hown0 h
  have hnil := fun w : World => Lib.run_eql_slice_nil (P := Try.prog) w 22 5 (some a) n c 0 0 Try.underlying22
  go_enter Try.func118, Try.ntmps118
  go_wp2_with (refine wpList_append_w Try.underlying22 hi hz0 hz1 hz2 rfl rfl (.tmp 5) (.tmp 6) rfl rfl HO.out (some a) n c (zs.map V8) rfl HA.out (by simp) (by omega) (by omega) (by simp) ?_)
  intro A' c' w' ho hf hg
  have HO2 := Lib.hid ho
  have HB2 : Hid (Below w.heap.size w w') := Lib.hid ((Below.refl _ w).alloc (Nat.le_refl _) (.cells #[] 5) |>.trans ((hf.below (B := w.heap.size) (by simp) (fun y hy => by simp [bkV] at hy; omega))))
  clear ho hf hg
  go_wp2
  go_ret
  exact ⟨A', c', by simp, by simpa using HO2.out, HB2.out⟩
/-- A copy of bytes: none of none. -/
theorem clone_all (w : World) (A : Option Addr) (n c : Nat) (zs : List Nat) (h : Arg w w.heap.size A n c zs) (hn : n ≤ 211106232532992) :
    Calls Try.prog 118 #[.slice A n c] w fun e w' => ∃ A' c', e = .returned (.slice A' n c') ∧ OwnV w' w.heap.size A' n c' (zs.map V8) ∧ Below w.heap.size w w' := by
  cases A with
  | none =>
    obtain ⟨rfl, rfl⟩ := h.none_ rfl
    obtain rfl : zs = [] := List.eq_nil_of_length_eq_zero h.len
    refine (clone_none w).mono ?_
    rintro e w' ⟨rfl, rfl⟩
    exact ⟨_, _, rfl, OwnV.nil _ _, Below.refl _ _⟩
  | some a =>
    exact clone_wide w a n c zs h hn

/-- What shrink leaves. -/
def ShrE (w : World) (rb : Nat) (cl : Bool) (n : Nat) (zs : List Nat) (w' : World) : Prop :=
  ∃ A' c', BlkL w' rb [.slice A' n c', .bool cl] ∧ OwnV w' w.heap.size A' n c' (zs.map V8) ∧ Off [rb] w w'

theorem shrink_no (w : World) (rb : Nat) : Calls Try.prog 88 #[.pointer (some ⟨rb, 0, none⟩), .bool false] w fun e w' => e = .returned (.tuple #[]) ∧ w = w' := by
  go_enter Try.func88, Try.ntmps88
  go_wp2
  go_end0
  exact ⟨rfl, rfl⟩
theorem shrink_yes (w : World) (rb : Nat) (A : Option Addr) (n c : Nat) (cl : Bool) (zs : List Nat) (h : BlkL w rb [.slice A n c, .bool cl]) (ha : Arg w w.heap.size A n c zs) (hn : n ≤ 211106232532992) :
    Calls Try.prog 88 #[.pointer (some ⟨rb, 0, none⟩), .bool true] w fun e w' => e = .returned (.tuple #[]) ∧ ShrE w rb cl n zs w' := by
  have h0 := h.cell 0 _ rfl
  have hlt := h.lt
  have HC := Lib.hid (clone_all w A n c zs ha hn)
  have H := Lib.hid h
  clear h ha hn
  go_enter Try.func88, Try.ntmps88
  go_wp2_with (with_reducible refine (HC.out).mono ?_)
  rintro e w1 ⟨A', c', rfl, ho, hb⟩
  have h1 := H.out.below hb
  have c1 := h1.cell 0 _ rfl
  have f1 := h1.froz 0 (by simp)
  have H1 := Lib.hid h1
  have HO := Lib.hid ho
  have HB := Lib.hid hb
  have hne : ∀ y ∈ bkV A', y ∉ [rb] := fun y hy => by have := (ho.lt y hy).1; simp; omega
  have HN := Lib.hid hne
  have hl1 := h1.lt
  clear ho hb h1 hne
  go_wp2
  go_end0
  refine ⟨rfl, A', c', ?_, ?_, ?_⟩
  · exact H1.out.set 0 _ (by simp)
  · exact ((HO.out).off ((Off.refl [rb] _).setCell (p := ⟨rb, 0, none⟩) (by simp) _) HN.out)
  · exact ((Off.of_below HB.out).trans ((Off.refl [rb] _).setCell (p := ⟨rb, 0, none⟩) (by simp) _))

section
variable {w : World} {x pb rb : Nat} {PA : Option Addr} {k kc : Nat} {b : Bool} {T : World → Prop}
theorem fin_pan (u : TypeId) (pv : Value) (older : List PanicEntry) (hx : BlkL w x [.pointer (some ⟨rb, 0, none⟩)]) (hp : BlkL w pb [.slice PA k kc]) (hb : decide (0 < k) = b)
    (HS : Hid (Calls Try.prog 88 #[.pointer (some ⟨rb, 0, none⟩), .bool b] w fun e w' => e = .returned (.tuple #[]) ∧ T w')) :
    CallsD Try.prog 87 #[.pointer (some ⟨x, 0, none⟩), .pointer (some ⟨pb, 0, none⟩)] (.panicking ({ v := .iface u pv, recovered := false } :: older)) w fun e u' w' =>
      e = .returned (.tuple #[]) ∧ u' = .panicking ({ v := .iface u pv, recovered := true } :: older) ∧ T w' := by
  have h0 := hx.cell 0 _ rfl
  have h1 := hp.cell 0 _ rfl
  clear hx hp
  refine callsD_of_wpS Try.func87 rfl fun c₀ cs hu => ?_
  apply wpS_seq
  apply wpS_region
  simp [wpOpsS, go_sem, recoverD, hu, Try.ntmps87, Exit.thenS]
  refine wpS_of_wp ?_
  clear hu
  go_wp2_with (with_reducible refine (HS.out).mono ?_)
  rintro e w1 ⟨rfl, ht⟩
  have HT := Lib.hid ht
  clear ht
  go_wp2
  exact ⟨rfl, _, rfl, _, by simp [results, Try.results87], rfl, rfl, HT.out⟩
theorem fin_ret (hx : BlkL w x [.pointer (some ⟨rb, 0, none⟩)]) (hp : BlkL w pb [.slice PA k kc]) (hb : decide (0 < k) = b)
    (HS : Hid (Calls Try.prog 88 #[.pointer (some ⟨rb, 0, none⟩), .bool b] w fun e w' => e = .returned (.tuple #[]) ∧ T w')) :
    CallsD Try.prog 87 #[.pointer (some ⟨x, 0, none⟩), .pointer (some ⟨pb, 0, none⟩)] .returning w fun e u' w' =>
      e = .returned (.tuple #[]) ∧ u' = .returning ∧ T w' := by
  have h0 := hx.cell 0 _ rfl
  have h1 := hp.cell 0 _ rfl
  clear hx hp
  refine callsD_of_wpS Try.func87 rfl fun c₀ cs hu => ?_
  apply wpS_seq
  apply wpS_region
  simp [wpOpsS, go_sem, recoverD, hu, Try.ntmps87, Exit.thenS]
  refine wpS_of_wp ?_
  have HU := Lib.hid hu
  clear hu
  go_wp2_with (with_reducible refine (HS.out).mono ?_)
  rintro e w1 ⟨rfl, ht⟩
  have HT := Lib.hid ht
  clear ht
  go_wp2
  refine ⟨rfl, .returning, ?_, _, by simp [results, Try.results87], rfl, rfl, HT.out⟩
  rw [← HU.out]
end
end Go.Proofs.Ytndgladfcogiiaa
