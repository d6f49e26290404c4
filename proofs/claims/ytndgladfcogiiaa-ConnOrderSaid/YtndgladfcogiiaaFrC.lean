/- Contracts: the frame in front of what is read; cutting off, closing. -/
import Derived.Test.YtndgladfcogiiaaFrB
import Derived.Test.YtndgladfcogiiaaFrM
namespace Go.Proofs.Ytndgladfcogiiaa
open Go.RowKit
set_option maxRecDepth 100000
set_option linter.unusedVariables false

theorem number_r (w : World) (B sb m r : Nat) (A : Option Addr) (n c : Nat) (zs : List Nat) (hr : Tk.numV (zs.take m) = r) (h : BlkL w sb [.slice A n c]) (ha : Arg w B A n c zs) (hB : B ≤ sb) (hm : m ≤ n) (hm8 : m ≤ 8) :
    Calls Try.prog 123 #[.pointer (some ⟨sb, 0, none⟩), .int .i64 (m : Int)] w fun e w' =>
      e = .returned (.int .u64 (r : Nat)) ∧ w' = w.setCell ⟨sb, 0, none⟩ (.slice (frB A c m) (n - m) (c - m)) := by
  subst hr; exact number_ok w B sb m A n c zs h ha hB hm hm8

theorem number4_fell (w : World) (sb : Nat) (A : Option Addr) (n c : Nat) (h : BlkL w sb [.slice A n c]) (hm : n < 4) : Calls Try.prog 123 #[.pointer (some ⟨sb, 0, none⟩), .int .i64 4] w (Fell w) :=
  number_fell w sb 4 A n c h hm
theorem number4_r (w : World) (B sb r : Nat) (A : Option Addr) (n c : Nat) (zs : List Nat) (hr : Tk.numV (zs.take 4) = r) (h : BlkL w sb [.slice A n c]) (ha : Arg w B A n c zs) (hB : B ≤ sb) (hm : 4 ≤ n) :
    Calls Try.prog 123 #[.pointer (some ⟨sb, 0, none⟩), .int .i64 4] w fun e w' =>
      e = .returned (.int .u64 (r : Nat)) ∧ w' = w.setCell ⟨sb, 0, none⟩ (.slice (frB A c 4) (n - 4) (c - 4)) :=
  number_r w B sb 4 r A n c zs hr h ha hB hm (by omega)

theorem next_short (w : World) (sb : Nat) (A : Option Addr) (n c : Nat) (h : BlkL w sb [.slice A n c]) (hn : n < 4) :
    Calls Try.prog 89 #[.pointer (some ⟨sb, 0, none⟩)] w (Fell w) := by
  have H := Lib.hid (number4_fell w sb A n c h hn)
  clear h hn
  go_enter Try.func89, Try.ntmps89
  go_wp2_with (with_reducible refine (H.out).mono ?_)
  rintro e w' ⟨rfl, rfl⟩
  exact ⟨rfl, rfl, rfl⟩

/-- A value, and all blocks but S as they were. -/
def OffE (v : Value) (S : List Nat) (w : World) (e : Ending) (w' : World) : Prop := e = .returned v ∧ Off S w w'
theorem next_bad (w : World) (sb : Nat) (A : Option Addr) (n c : Nat) (zs : List Nat) (h : BlkL w sb [.slice A n c]) (ha : Arg w sb A n c zs) (hn : 4 ≤ n) (hb : Fr.sizeV zs < 1 ∨ 4096 < Fr.sizeV zs) :
    Calls Try.prog 89 #[.pointer (some ⟨sb, 0, none⟩)] w (OffE (.tuple #[.slice none 0 0, .bool false]) [sb] w) := by
  obtain ⟨r, hr⟩ : ∃ r, Fr.sizeV zs = r := ⟨_, rfl⟩
  have H := Lib.hid (number4_r w sb sb r A n c zs hr h ha (Nat.le_refl _) hn)
  have HO := Lib.hid ((Off.refl [sb] w).setCell (p := ⟨sb, 0, none⟩) (by simp) (.slice (frB A c 4) (n - 4) (c - 4)))
  rw [hr] at hb
  clear h ha hn hr
  rcases hb with hb | hb
  · have d1 : decide ((r : Int) < 1) = true := by simp; omega
    have d2 : r = 0 := by omega
    subst d2
    go_enter Try.func89, Try.ntmps89
    go_wp2_with (with_reducible refine (H.out).mono ?_)
    rintro e w' ⟨rfl, rfl⟩
    go_wp2
    go_ret2
    exact ⟨rfl, HO.out⟩
  · have d1 : decide ((r : Int) < 1) = false := by simp; omega
    have d2 : decide ((r : Int) > 4096) = true := by simp; omega
    have d3 : decide ((4096 : Int) < (r : Int)) = true := by simp; omega
    go_enter Try.func89, Try.ntmps89
    go_wp2_with (with_reducible refine (H.out).mono ?_)
    rintro e w' ⟨rfl, rfl⟩
    go_wp2
    go_ret2
    exact ⟨rfl, HO.out⟩

theorem next_part (w : World) (sb : Nat) (A : Option Addr) (n c : Nat) (zs : List Nat) (h : BlkL w sb [.slice A n c]) (ha : Arg w sb A n c zs) (hn : 4 ≤ n) (hb : ¬ (Fr.sizeV zs < 1 ∨ 4096 < Fr.sizeV zs)) (hs : n < 4 + Fr.sizeV zs) :
    Calls Try.prog 89 #[.pointer (some ⟨sb, 0, none⟩)] w fun e w' => e = .panicked [{ v := .iface 186 (.agg #[]), recovered := false }] ∧ Off [sb] w w' := by
  obtain ⟨r, hr⟩ : ∃ r, Fr.sizeV zs = r := ⟨_, rfl⟩
  have H := Lib.hid (number4_r w sb sb r A n c zs hr h ha (Nat.le_refl _) hn)
  have HO := Lib.hid ((Off.refl [sb] w).setCell (p := ⟨sb, 0, none⟩) (by simp) (.slice (frB A c 4) (n - 4) (c - 4)))
  rw [hr] at hb hs
  have HT := Lib.hid (take_fell _ sb r _ _ _ (h.set 0 (.slice (frB A c 4) (n - 4) (c - 4)) (by simp)) (show n - 4 < r by omega))
  clear h ha hn hr
  have d1 : decide ((r : Int) < 1) = false := by simp; omega
  have d2 : decide ((r : Int) > 4096) = false := by simp; omega
  have d3 : decide ((4096 : Int) < (r : Int)) = false := by simp; omega
  have d4 : IntKind.i64.wrap (r : Int) = (r : Int) := IntWalk.i64_in _ (by omega)
  go_enter Try.func89, Try.ntmps89
  go_wp2_with (with_reducible refine (H.out).mono ?_)
  rintro e w' ⟨rfl, rfl⟩
  go_wp2_with (with_reducible refine (HT.out).mono ?_)
  rintro e w' ⟨rfl, rfl⟩
  exact ⟨rfl, rfl, HO.out⟩

/-- How next ends where a whole frame stands in front: the payload is new memory, the rest is left to be read. -/
def NextEnd (w : World) (sb : Nat) (A : Option Addr) (n c : Nat) (zs : List Nat) (e : Ending) (w' : World) : Prop :=
  ∃ g pc A2 c2, e = .returned (.tuple #[.slice (some ⟨g, 0, none⟩) (Fr.sizeV zs) pc, .bool true]) ∧ OwnV w' w.heap.size (some ⟨g, 0, none⟩) (Fr.sizeV zs) pc (((zs.drop 4).take (Fr.sizeV zs)).map V8) ∧
    BlkL w' sb [.slice A2 (n - (4 + Fr.sizeV zs)) c2] ∧ Arg w' sb A2 (n - (4 + Fr.sizeV zs)) c2 (zs.drop (4 + Fr.sizeV zs)) ∧ (∀ y ∈ bkV A2, y ∈ bkV A) ∧ Off [sb] w w'

theorem next_whole (w : World) (sb : Nat) (A : Option Addr) (n c : Nat) (zs : List Nat) (h : BlkL w sb [.slice A n c]) (ha : Arg w sb A n c zs) (hb : ¬ (Fr.sizeV zs < 1 ∨ 4096 < Fr.sizeV zs)) (hs : 4 + Fr.sizeV zs ≤ n) :
    Calls Try.prog 89 #[.pointer (some ⟨sb, 0, none⟩)] w (NextEnd w sb A n c zs) := by
  have hsb := h.lt
  have HP : Hid (∀ e w', (∃ g pc A2 c2, e = .returned (.tuple #[.slice (some ⟨g, 0, none⟩) (Fr.sizeV zs) pc, .bool true]) ∧ OwnV w' w.heap.size (some ⟨g, 0, none⟩) (Fr.sizeV zs) pc (((zs.drop 4).take (Fr.sizeV zs)).map V8) ∧
    BlkL w' sb [.slice A2 (n - (4 + Fr.sizeV zs)) c2] ∧ Arg w' sb A2 (n - (4 + Fr.sizeV zs)) c2 (zs.drop (4 + Fr.sizeV zs)) ∧ (∀ y ∈ bkV A2, y ∈ bkV A) ∧ Off [sb] w w') → NextEnd w sb A n c zs e w') := Lib.hid fun _ _ h => h
  obtain ⟨r, hr⟩ : ∃ r, Fr.sizeV zs = r := ⟨_, rfl⟩
  rw [hr] at hb hs HP
  have H := number4_r w sb sb r A n c zs hr h ha (Nat.le_refl _) (by omega)
  have hle := ha.le
  have a0 := ha.fromB (k := 4) (by omega)
  obtain ⟨b, off, hA, _, _⟩ := a0.at_ (by omega)
  rw [hA] at H a0
  have hbk : ∀ y ∈ bkV (frB (some ⟨b, off, none⟩) (c - 4) r), y ∈ bkV A := fun y hy => by rw [bkV_frB, ← hA, bkV_frB] at hy; exact hy
  have HBK := Lib.hid hbk
  clear hbk
  have h1 := h.set 0 (.slice (some ⟨b, off, none⟩) (n - 4) (c - 4)) (by simp)
  have HT := Lib.hid (take_ok _ sb r _ _ _ h1 (show r ≤ n - 4 by omega) (by omega))
  have h2 := h1.set 0 (.slice (frB (some ⟨b, off, none⟩) (c - 4) r) (n - 4 - r) (c - 4 - r)) (by simp)
  have a1 := a0.below (w' := (w.setCell ⟨sb, 0, none⟩ (.slice (some ⟨b, off, none⟩) (n - 4) (c - 4))).setCell ⟨sb, 0, none⟩ (.slice (frB (some ⟨b, off, none⟩) (c - 4) r) (n - 4 - r) (c - 4 - r))) (((Below.refl sb w).setCell (Nat.le_refl _) _).setCell (Nat.le_refl _) _)
  have a2 := a1.take (k := r) (by omega)
  have a3 := a1.fromB (k := r) (by omega)
  have HO := Lib.hid (((Off.refl [sb] w).setCell (p := ⟨sb, 0, none⟩) (by simp) (.slice (some ⟨b, off, none⟩) (n - 4) (c - 4))).setCell (p := ⟨sb, 0, none⟩) (by simp) (.slice (frB (some ⟨b, off, none⟩) (c - 4) r) (n - 4 - r) (c - 4 - r)))
  have HC := Lib.hid (clone_some _ sb _ _ _ _ a2 (by simpa using Nat.le_of_lt hsb) (by omega))
  have H2 := Lib.hid h2
  have A3 := Lib.hid a3
  have HN := Lib.hid H
  have HR : Hid (1 ≤ r) := Lib.hid (by omega)
  have d1 : decide ((r : Int) < 1) = false := by simp; omega
  have d2 : decide ((r : Int) > 4096) = false := by simp; omega
  have d3 : decide ((4096 : Int) < (r : Int)) = false := by simp; omega
  have d4 : IntKind.i64.wrap (r : Int) = (r : Int) := IntWalk.i64_in _ (by omega)
  clear h ha hr h1 h2 a0 a1 a2 a3 hA hb hs H
  go_enter Try.func89, Try.ntmps89
  go_wp2_with (with_reducible refine (HN.out).mono ?_)
  rintro e w' ⟨rfl, rfl⟩
  go_wp2_with (with_reducible refine (HT.out).mono ?_)
  rintro e w' ⟨rfl, rfl⟩
  go_wp2_with (with_reducible refine (HC.out).mono ?_)
  rintro e w' ⟨A', c', rfl, ho, hbl⟩
  have HB := Lib.hid hbl
  have HV := Lib.hid ho
  clear hbl ho
  go_wp2
  go_ret2
  refine HP.out _ _ ?_
  have hv := HV.out.ownV
  have hr1 := HR.out
  obtain ⟨g, o2, rfl, k1, k2, k3, k4⟩ := hv.cell (by omega)
  have hg : o2 = 0 := by
    rcases HV.out.1.2 with ⟨h, _⟩ | ⟨g', cap, cur, h1, _⟩
    · simp at h
    · simp only [Value.slice.injEq, Option.some.injEq, Addr.mk.injEq] at h1; exact h1.1.2.1
  subst hg
  have hb2 := HB.out
  refine ⟨g, c', frB (some ⟨b, off, none⟩) (c - 4) r, c - 4 - r, rfl, hv.mono (by simp), ?_, ?_, HBK.out, ?_⟩
  · have := H2.out.below hb2
    rw [show n - (4 + r) = n - 4 - r by omega]
    exact this
  · have := A3.out.keep hb2 (by simpa using Nat.le_of_lt hsb)
    rw [List.drop_drop] at this
    rw [show n - (4 + r) = n - 4 - r by omega]
    exact this
  · exact HO.out.trans (Off.of_below hb2)

theorem close_any (w : World) (rb : Nat) (v : Value) (b : Bool) (h : BlkL w rb [v, .bool b]) : Calls Try.prog 85 #[.pointer (some ⟨rb, 0, none⟩)] w fun e w' =>
    e = .returned (.tuple #[]) ∧ w' = (w.setCell ⟨rb, 0, none⟩ (.slice none 0 0)).setCell ⟨rb, 1, none⟩ (.bool true) := by
  have h0 := h.cell 0 _ rfl
  have h1 := h.cell 1 _ rfl
  have f0 := h.froz 0 (by simp)
  have f1 := h.froz 1 (by simp)
  have hlt := h.lt
  clear h
  go_enter Try.func85, Try.ntmps85
  go_wp2
  go_end0
  exact ⟨rfl, rfl⟩
end Go.Proofs.Ytndgladfcogiiaa
