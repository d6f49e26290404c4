/- cell.Do, whole. -/
import Derived.Test.YtnkecjjfbllgdaaBkJ
import Derived.Test.YtnkecjjfbllgdaaBkC
import Derived.Test.YtnkecjjfbllgdaaBkE
namespace Go.Proofs.Ytnkecjjfbllgdaa
open Go.RowKit Go.Maps
set_option maxRecDepth 100000
set_option linter.unusedVariables false

theorem tat_cast (a : Nat) : ((a : Nat) : Int) = ((a : Int)) := rfl
theorem cellDo_any (W : World) (p : PolM) (c : CelM) (op now : Nat) (q N s : Int) (A KA : Option Addr) (m k kn kc : Nat) (hp : p.ok) (hc : c.ok p) (ho : 1 ≤ op ∧ op ≤ 4) (hk : kindB op p.kind = true)
    (hN : op = 1 → isTick N = true) (hnow : now ≤ 4611686018427387903) (hA : ArgI W W.heap.size A m k c.held) (hs : Shp A k) :
    Calls Try.prog 54 #[polV p, celV c A m k, .agg #[.int .u8 (op : Nat), .int .i64 q, .slice KA kn kc, .int .i64 N], .int .i64 (now : Nat), .int .i64 s] W (CellEnd W (cellM p c op N now s)) := by
  obtain ⟨kd, T, Tau, pm⟩ := p
  obtain ⟨tat, xs⟩ := c
  have hl : xs.length = m := hA.len
  have hop : op = 1 ∨ op = 2 ∨ op = 3 ∨ op = 4 := by omega
  have hcz : kd = 1 → checkV T Tau = 0 := fun e => by
    rcases hp with h | h
    · exact h.2
    · exact absurd (e.symm.trans h.1) (by omega)
  have hsem : kd = 2 → tat = 0 ∧ semB pm xs = true := fun e => hc.sema e
  have htk : tat ≤ 4611686018427387903 := hc.tick
  rcases hop with rfl | rfl | rfl | rfl
  · have hkd : kd = 1 := of_decide_eq_true hk
    have hz := hcz hkd
    have hn := isTick_iff.1 (hN rfl)
    obtain ⟨n, rfl⟩ : ∃ n : Nat, N = (n : Int) := ⟨N.toNat, by omega⟩
    have := cDo_allow W kd T Tau pm q s tat A KA m k kn kc now n (grB T.toNat Tau.toNat tat now n) (grB T.toNat Tau.toNat tat now n && decide (0 < n)) _ _ _
      (Lib.hid fun w => callow_any w T Tau tat A m k now n hz htk hnow (by omega))
    refine this.mono ?_
    rintro e w' ⟨rfl, hb⟩
    exact ⟨none, 0, 0, rfl, fun _ => OwnI.nil _ _, hb⟩
  · have hkd : kd = 2 := of_decide_eq_true hk
    obtain ⟨rfl, hsb⟩ := hsem hkd
    have HS := Lib.hid (fun w => sema_any w ((0 : Nat) : Int) T Tau pm kd A m k)
    by_cases ht : takeE pm xs s = 0
    · have e1 : cellM ⟨kd, T, Tau, pm⟩ ⟨0, xs⟩ 2 N now s = (⟨0, true, pm - ((xs.length + 1 : Nat) : Int), 0, s, 0⟩, ⟨0, putV xs s⟩, true) := by
        show takeM _ _ _ = _
        unfold takeM
        rw [if_pos ht]
      rw [e1, hl]
      refine cDo_take W kd T Tau pm q s N now 0 0 A KA m k kn kc _ _ _ HS (Lib.hid fun W1 hW1 => ?_)
      refine (take_good ((hA.below hW1).more hW1.size) (Nat.le_refl _) hs ht).mono ?_
      rintro e w' ⟨A', c', rfl, ho', hb⟩
      refine ⟨pm, A', m + 1, c', A', m + 1, c', rfl, hb, fun W2 h2 => ?_, fun _ W2 h2 => ho'.above h2⟩
      exact cheld_ok W2 W2.heap.size A' (m + 1) c' _ pm s (ho'.above h2).arg (Nat.le_refl _) (sem_put ht)
    · have e1 : cellM ⟨kd, T, Tau, pm⟩ ⟨0, xs⟩ 2 N now s = (RepM.err (takeE pm xs s), CelM.zero, false) := by
        show takeM _ _ _ = _
        unfold takeM
        rw [if_neg ht]
      rw [e1]
      refine cDo_take W kd T Tau pm q s N now (takeE pm xs s) 0 A KA m k kn kc _ _ _ HS (Lib.hid fun W1 hW1 => ?_)
      refine (take_bad ((hA.below hW1).more hW1.size) (Nat.le_refl _) ht).mono ?_
      rintro e w' ⟨rfl, hb⟩
      refine ⟨0, none, 0, 0, none, 0, 0, rfl, hb, fun W2 h2 => ?_, fun _ W2 h2 => OwnI.nil _ _⟩
      exact cheld_bad W2 none 0 0 0 s _ ht
  · have hkd : kd = 2 := of_decide_eq_true hk
    obtain ⟨rfl, hsb⟩ := hsem hkd
    have hf := semB_iff.1 hsb
    have HS := Lib.hid (fun w => sema_any w ((0 : Nat) : Int) T Tau pm kd A m k)
    rcases hh : hasV xs N with _ | _
    · have e1 : cellM ⟨kd, T, Tau, pm⟩ ⟨0, xs⟩ 3 N now s = (RepM.err 11, CelM.zero, false) := by
        show giveM _ _ _ = _
        unfold giveM
        rw [if_neg (by rw [hh]; simp)]
      rw [e1]
      refine cDo_give W kd T Tau pm q s N now 11 0 A KA m k kn kc _ _ _ HS (Lib.hid fun W1 hW1 => ?_)
      have hA1 := (hA.below hW1).more hW1.size
      have HC := check_at (p := pm) hA1 (Nat.le_refl _)
      rw [semV_ok hsb] at HC
      have HX := search_at (t := N) hA1 (Nat.le_refl _) hf.2.2.2 (by omega)
      rw [hh] at HX
      refine (give_tok W1 A m k pm N _ (Lib.hid HC) (Lib.hid HX)).mono ?_
      rintro e w' ⟨rfl, hb⟩
      refine ⟨0, none, 0, 0, none, 0, 0, rfl, hb, fun W2 h2 => ?_, fun _ W2 h2 => OwnI.nil _ _⟩
      exact cheld_bad W2 none 0 0 0 0 11 (by omega)
    · have e1 : cellM ⟨kd, T, Tau, pm⟩ ⟨0, xs⟩ 3 N now s = (⟨0, true, pm - ((xs.length - 1 : Nat) : Int), 0, 0, 0⟩, ⟨0, dropV xs N⟩, true) := by
        show giveM _ _ _ = _
        unfold giveM
        rw [if_pos hh]
      rw [e1, hl]
      refine cDo_give W kd T Tau pm q s N now 0 0 A KA m k kn kc _ _ _ HS (Lib.hid fun W1 hW1 => ?_)
      refine (give_good ((hA.below hW1).more hW1.size) (Nat.le_refl _) hs hsb hh).mono ?_
      rintro e w' ⟨A', c', rfl, ho', hb⟩
      refine ⟨pm, A', m - 1, c', A', m - 1, c', rfl, hb, fun W2 h2 => ?_, fun _ W2 h2 => ho'.above h2⟩
      refine cheld_ok W2 W2.heap.size A' (m - 1) c' _ pm 0 (ho'.above h2).arg (Nat.le_refl _) (semB_iff.2 ⟨hf.1, hf.2.1, ?_, okList_filter hf.2.2.2⟩)
      have := dropV_len hf.2.2.2 hh
      show ((dropV xs N).length : Int) ≤ pm
      have := hf.2.2.1
      omega
  · rcases hp with ⟨hkd, hz⟩ | ⟨hkd, _⟩
    · simp only at hkd hz
      subst hkd
      have e1 : cellM ⟨1, T, Tau, pm⟩ ⟨tat, xs⟩ 4 N now s = (⟨0, false, (leftV T.toNat Tau.toNat tat now : Nat), ((tat - now : Nat) : Int), 0, (now : Nat)⟩, ⟨tat, xs⟩, false) := rfl
      rw [e1]
      refine (cDo_peekR W T Tau pm q s N now _ _ tat A KA m k kn kc (Lib.hid fun W1 _ => cpeek_any W1 T Tau tat A m k now hz htk hnow)).mono ?_
      rintro e w' ⟨rfl, hb⟩
      exact ⟨A, m, k, rfl, (fun hh => by cases hh), hb⟩
    · simp only at hkd
      subst hkd
      obtain ⟨rfl, hsb⟩ := hsem rfl
      have e1 : cellM ⟨2, T, Tau, pm⟩ ⟨0, xs⟩ 4 N now s = (⟨0, false, pm - (xs.length : Nat), 0, 0, 0⟩, ⟨0, xs⟩, false) := rfl
      rw [e1, hl]
      refine (cDo_peekS W T Tau pm q s N now 0 A KA m k kn kc (Lib.hid fun W1 h1 => cFreeM_any W1 W1.heap.size _ T Tau pm 2 A m k xs ((hA.below h1).more h1.size) (Nat.le_refl _) hsb)).mono ?_
      rintro e w' ⟨rfl, hb⟩
      exact ⟨A, m, k, rfl, (fun hh => by cases hh), hb⟩
end Go.Proofs.Ytnkecjjfbllgdaa
