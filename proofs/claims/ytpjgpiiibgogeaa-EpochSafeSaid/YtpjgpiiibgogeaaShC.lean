/- Concat of three and of two versions' pieces. -/
import Derived.Test.YtpjgpiiibgogeaaShG
namespace Go.Proofs.Ytpjgpiiibgogeaa
open Go.RowKit
set_option maxRecDepth 100000
set_option linter.unusedVariables false

theorem ArgC.from_ {w : World} {B k n c : Nat} {A : Option Addr} {cs : List Value} (h : ArgC w B k A n c cs) {q : Nat} (hq : q ≤ n) : ArgC w B k (if c = q then A else A.map (·.add (q * k))) (n - q) (c - q) (cs.drop (q * k)) := by
  refine ⟨by rw [List.length_drop, h.len, Nat.sub_mul], by have := h.le; omega, by have := h.cap; omega, fun he => ?_, fun hn => ?_⟩
  · have hA : A = none := by
      split at he
      · exact he
      · cases A with
        | none => rfl
        | some a => cases he
    have := h.none_ hA
    omega
  · obtain ⟨b, off, rfl, hb, hc⟩ := h.at_ (by omega)
    rw [if_neg (by have := h.le; omega)]
    refine ⟨b, off + q * k, ?_, hb, fun j hj => ?_⟩
    · by_cases h0 : q * k = 0 <;> simp [Addr.add, h0]
    · have hqk : q * k + (n - q) * k = n * k := by rw [← Nat.add_mul]; congr 1; omega
      have := hc (q * k + j) (by omega)
      rw [← Nat.add_assoc] at this
      rw [this, List.getElem?_drop]
theorem ent_lit (w : World) (A : Option Addr) (n c : Nat) (x : Int) : ArgC (w.alloc (.cells #[.slice A n c, .int .i64 x] TE)) (w.heap.size + 1) 2 (some ⟨w.heap.size, 0, none⟩) 1 1 [.slice A n c, .int .i64 x] := by
  refine ⟨rfl, by omega, by unfold maxLen; omega, (fun h => by cases h), fun _ => ⟨w.heap.size, 0, rfl, by omega, fun j hj => ?_⟩⟩
  rcases (by omega : j = 0 ∨ j = 1) with rfl | rfl <;> simp

theorem concatE_three (W : World) (b1 b2 : Nat) (kA : Option Addr) (kn kc : Nat) (x : Int) (A1 A2 : Option Addr) (n1 c1 n2 c2 N : Nat) (cs1 cs2 : List Value) (h1 : ArgC W W.heap.size 2 A1 n1 c1 cs1) (h2 : ArgC W W.heap.size 2 A2 n2 c2 cs2)
    (o1 : ∀ u ∈ cs1, u.oneCell' = true) (o2 : ∀ u ∈ cs2, u.oneCell' = true) (e1 : b1 = W.heap.size) (e2 : b2 = W.heap.size + 1) (hN : n1 + 1 + n2 = N) (hb : N ≤ 1000000) :
    Calls Try.prog 111 #[.slice (some ⟨b2, 0, none⟩) 3 3] ((W.alloc (.cells #[.slice kA kn kc, .int .i64 x] TE)).alloc (.cells #[.slice A1 n1 c1, .slice (some ⟨b1, 0, none⟩) 1 1, .slice A2 n2 c2] 140))
      fun e w' => ∃ A c, e = .returned (.slice A N c) ∧ OwnC w' W.heap.size TE 2 A N c (cs1 ++ [.slice kA kn kc, .int .i64 x] ++ cs2) ∧ Below W.heap.size W w' := by
  subst e1 e2
  obtain ⟨W1, hW1⟩ : ∃ W1, W.alloc (.cells #[.slice kA kn kc, .int .i64 x] TE) = W1 := ⟨_, rfl⟩
  have hz1 : W1.heap.size = W.heap.size + 1 := by rw [← hW1]; simp
  have hb1 : Below W.heap.size W W1 := by rw [← hW1]; exact (Below.refl _ _).alloc (Nat.le_refl _) _
  have ho : ArgC W1 (W.heap.size + 1) 2 (some ⟨W.heap.size, 0, none⟩) 1 1 [.slice kA kn kc, .int .i64 x] := by rw [← hW1]; exact ent_lit W kA kn kc x
  rw [hW1]
  let pc : Nat → PcE := fun k => if k = 0 then ⟨A1, n1, c1, cs1⟩ else if k = 1 then ⟨some ⟨W.heap.size, 0, none⟩, 1, 1, [.slice kA kn kc, .int .i64 x]⟩ else ⟨A2, n2, c2, cs2⟩
  obtain ⟨W2, hW2⟩ : ∃ W2, W1.alloc (.cells #[.slice A1 n1 c1, .slice (some ⟨W.heap.size, 0, none⟩) 1 1, .slice A2 n2 c2] 140) = W2 := ⟨_, rfl⟩
  have hz2 : W2.heap.size = W.heap.size + 2 := by rw [← hW2]; simp [hz1]
  have hb2 : Below W1.heap.size W1 W2 := by rw [← hW2]; exact (Below.refl _ _).alloc (Nat.le_refl _) _
  have hcell : ∀ k, k < 3 → W2.cell? ⟨W.heap.size + 1, k, none⟩ = some (.slice (pc k).A (pc k).n (pc k).c) := fun k hk => by
    rw [← hW2, ← hz1]
    rcases (by omega : k = 0 ∨ k = 1 ∨ k = 2) with rfl | rfl | rfl <;> simp [pc]
  have hat : PcAtE W2 (W.heap.size + 2) (W.heap.size + 1) 3 pc := fun k hk => ⟨hcell k hk, by
    rcases (by omega : k = 0 ∨ k = 1 ∨ k = 2) with rfl | rfl | rfl
    · exact ⟨((h1.below hb1).more (by omega : W.heap.size ≤ W1.heap.size)).below hb2 |>.more (by omega), o1⟩
    · refine ⟨((ho.more (by omega : W.heap.size + 1 ≤ W1.heap.size)).below hb2).more (by omega), fun u hu => ?_⟩
      have hu' : u = .slice kA kn kc ∨ u = .int .i64 x := by simpa [pc] using hu
      rcases hu' with rfl | rfl <;> rfl
    · exact ⟨((h2.below hb1).more (by omega : W.heap.size ≤ W1.heap.size)).below hb2 |>.more (by omega), o2⟩⟩
  have hcat : catE pc 3 = cs1 ++ [.slice kA kn kc, .int .i64 x] ++ cs2 := by simp [catE, pc]
  have hlen : numE pc 3 = N := by simp [numE, pc]; omega
  have hc := concatE_any W2 (W.heap.size + 2) (W.heap.size + 1) 3 pc hat (by omega) (by omega) (by omega) (by omega) (by omega)
  rw [hlen, hcat] at hc
  rw [hW2]
  refine hc.mono ?_
  rintro e w' ⟨A, c, rfl, hown, hbw⟩
  refine ⟨A, c, rfl, hown.mono (by omega), ?_⟩
  exact (hb1.trans (hb2.mono (by omega))).trans (hbw.mono (by omega))
theorem concatE_two (W : World) (b2 : Nat) (A1 A2 : Option Addr) (n1 c1 n2 c2 N : Nat) (cs1 cs2 : List Value) (h1 : ArgC W W.heap.size 2 A1 n1 c1 cs1) (h2 : ArgC W W.heap.size 2 A2 n2 c2 cs2)
    (o1 : ∀ u ∈ cs1, u.oneCell' = true) (o2 : ∀ u ∈ cs2, u.oneCell' = true) (e2 : b2 = W.heap.size) (hN : n1 + n2 = N) (hb : N ≤ 1000000) :
    Calls Try.prog 111 #[.slice (some ⟨b2, 0, none⟩) 2 2] (W.alloc (.cells #[.slice A1 n1 c1, .slice A2 n2 c2] 140))
      fun e w' => ∃ A c, e = .returned (.slice A N c) ∧ OwnC w' W.heap.size TE 2 A N c (cs1 ++ cs2) ∧ Below W.heap.size W w' := by
  subst e2
  let pc : Nat → PcE := fun k => if k = 0 then ⟨A1, n1, c1, cs1⟩ else ⟨A2, n2, c2, cs2⟩
  obtain ⟨W2, hW2⟩ : ∃ W2, W.alloc (.cells #[.slice A1 n1 c1, .slice A2 n2 c2] 140) = W2 := ⟨_, rfl⟩
  have hz2 : W2.heap.size = W.heap.size + 1 := by rw [← hW2]; simp
  have hb2 : Below W.heap.size W W2 := by rw [← hW2]; exact (Below.refl _ _).alloc (Nat.le_refl _) _
  have hcell : ∀ k, k < 2 → W2.cell? ⟨W.heap.size, k, none⟩ = some (.slice (pc k).A (pc k).n (pc k).c) := fun k hk => by
    rw [← hW2]
    rcases (by omega : k = 0 ∨ k = 1) with rfl | rfl <;> simp [pc]
  have hat : PcAtE W2 (W.heap.size + 1) W.heap.size 2 pc := fun k hk => ⟨hcell k hk, by
    rcases (by omega : k = 0 ∨ k = 1) with rfl | rfl
    · exact ⟨(h1.below hb2).more (by omega), o1⟩
    · exact ⟨(h2.below hb2).more (by omega), o2⟩⟩
  have hcat : catE pc 2 = cs1 ++ cs2 := by simp [catE, pc]
  have hlen : numE pc 2 = N := by simp [numE, pc]; omega
  have hc := concatE_any W2 (W.heap.size + 1) W.heap.size 2 pc hat (by omega) (by omega) (by omega) (by omega) (by omega)
  rw [hlen, hcat] at hc
  rw [hW2]
  refine hc.mono ?_
  rintro e w' ⟨A, c, rfl, hown, hbw⟩
  exact ⟨A, c, rfl, hown.mono (by omega), hb2.trans (hbw.mono (by omega))⟩
theorem concatE_three_d (W : World) (b1 b2 : Nat) (kA : Option Addr) (kn kc : Nat) (x : Int) (A1 A2 : Option Addr) (n1 c1 n2 c2 N : Nat) (cs1 cs2 : List Value) (h1 : ArgC W W.heap.size 2 A1 n1 c1 cs1) (h2 : ArgC W W.heap.size 2 A2 n2 c2 cs2)
    (o1 : ∀ u ∈ cs1, u.oneCell' = true) (o2 : ∀ u ∈ cs2, u.oneCell' = true) (e1 : b1 = W.heap.size) (e2 : b2 = W.heap.size + 1) (hN : n1 + 1 + n2 = N) (hb : N ≤ 1000000) :
    Calls Try.prog 111 #[.slice (some ⟨b2, 0, none⟩) 3 3] ((W.alloc (.cells #[.slice kA kn kc, .int .i64 x] TE)).alloc (.cells #[.slice A1 n1 c1, .slice (some ⟨b1, 0, none⟩) 1 1, .slice A2 n2 c2] 140)).drew
      fun e w' => ∃ A c, e = .returned (.slice A N c) ∧ OwnC w' W.heap.size TE 2 A N c (cs1 ++ [.slice kA kn kc, .int .i64 x] ++ cs2) ∧ Below W.heap.size W w' := by
  have hd : Below W.heap.size W W.drew := (Below.refl _ _).drew
  exact (concatE_three W.drew b1 b2 kA kn kc x A1 A2 n1 c1 n2 c2 N cs1 cs2 (h1.below hd) (h2.below hd) o1 o2 e1 e2 hN hb).mono fun e w' ⟨A, c, he, ho, hw⟩ => ⟨A, c, he, ho, hd.trans hw⟩
theorem concatE_two_d (W : World) (b2 : Nat) (A1 A2 : Option Addr) (n1 c1 n2 c2 N : Nat) (cs1 cs2 : List Value) (h1 : ArgC W W.heap.size 2 A1 n1 c1 cs1) (h2 : ArgC W W.heap.size 2 A2 n2 c2 cs2)
    (o1 : ∀ u ∈ cs1, u.oneCell' = true) (o2 : ∀ u ∈ cs2, u.oneCell' = true) (e2 : b2 = W.heap.size) (hN : n1 + n2 = N) (hb : N ≤ 1000000) :
    Calls Try.prog 111 #[.slice (some ⟨b2, 0, none⟩) 2 2] (W.alloc (.cells #[.slice A1 n1 c1, .slice A2 n2 c2] 140)).drew
      fun e w' => ∃ A c, e = .returned (.slice A N c) ∧ OwnC w' W.heap.size TE 2 A N c (cs1 ++ cs2) ∧ Below W.heap.size W w' := by
  have hd : Below W.heap.size W W.drew := (Below.refl _ _).drew
  exact (concatE_two W.drew b2 A1 A2 n1 c1 n2 c2 N cs1 cs2 (h1.below hd) (h2.below hd) o1 o2 e2 hN hb).mono fun e w' ⟨A, c, he, ho, hw⟩ => ⟨A, c, he, ho, hd.trans hw⟩
/-- What an own row of entries reads as. -/
theorem OwnC.ver {w : World} {B : Nat} {S : List Nat} {A : Option Addr} {n c : Nat} {es : List KV} (h : OwnC w B TE 2 A n c (KVs es)) (hS : ∀ x ∈ S, x < B)
    (hk : ∀ e ∈ es, Arg w w.heap.size e.A e.n e.c e.zs ∧ Apt S e.A e.n ∧ e.n ≤ 256) : VerA w w.heap.size S A n c es := by
  refine ⟨h.arg, fun hn a ha hs => ?_, hk⟩
  rcases h.2 with ⟨h1, h2⟩ | ⟨g, cap, cur, h1, h2, h3, h4⟩
  · injection h1 with h1; rw [h1] at ha; cases ha
  · injection h1 with h1; rw [h1] at ha; cases ha
    have := hS _ hs
    simp only at this
    omega
end Go.Proofs.Ytpjgpiiibgogeaa
