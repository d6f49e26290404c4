/- Contracts of package perm: New, Has, Free; Concat of two and of three pieces. -/
import Derived.Test.YtnkecjjfbllgdaaPermG
namespace Go.Proofs.Ytnkecjjfbllgdaa
open Go.RowKit
set_option maxRecDepth 100000

/-- A slice that a call lays out of three, or two numbers. -/
theorem ints_lit6 (w : World) (xs : List Int) (n : Nat) (hn : xs.length = n) (hm : n ≤ 1000) : ArgI (w.alloc (.cells (xs.map V64).toArray 2)) (w.heap.size + 1) (some ⟨w.heap.size, 0, none⟩) n n xs := by
  have := (OwnI.lit w xs hn (by unfold maxLen; omega)).arg
  simpa using this

theorem concat_three (W : World) (b1 b2 : Nat) (t : Int) (A1 A2 : Option Addr) (n1 c1 n2 c2 N : Nat) (xs1 xs2 : List Int) (h1 : ArgI W W.heap.size A1 n1 c1 xs1) (h2 : ArgI W W.heap.size A2 n2 c2 xs2)
    (e1 : b1 = W.heap.size) (e2 : b2 = W.heap.size + 1) (hN : n1 + 1 + n2 = N) (hb : N ≤ 1000) :
    Calls Try.prog 75 #[.slice (some ⟨b2, 0, none⟩) 3 3] ((W.alloc (.cells #[.int .i64 t] 2)).alloc (.cells #[.slice A1 n1 c1, .slice (some ⟨b1, 0, none⟩) 1 1, .slice A2 n2 c2] 53))
      fun e w' => ∃ A c, e = .returned (.slice A N c) ∧ OwnI w' W.heap.size A N c (xs1 ++ [t] ++ xs2) ∧ Below W.heap.size W w' := by
  subst e1 e2
  have hl1 := h1.len
  have hl2 := h2.len
  obtain ⟨W1, hW1⟩ : ∃ W1, W.alloc (.cells #[.int .i64 t] 2) = W1 := ⟨_, rfl⟩
  have hz1 : W1.heap.size = W.heap.size + 1 := by rw [← hW1]; simp
  have hb1 : Below W.heap.size W W1 := by rw [← hW1]; exact (Below.refl _ _).alloc (Nat.le_refl _) _
  have ho : ArgI W1 (W.heap.size + 1) (some ⟨W.heap.size, 0, none⟩) 1 1 [t] := by rw [← hW1]; exact ints_lit6 W [t] 1 rfl (by omega)
  rw [hW1]
  let pc : Nat → Pc := fun k => if k = 0 then ⟨A1, n1, c1, xs1⟩ else if k = 1 then ⟨some ⟨W.heap.size, 0, none⟩, 1, 1, [t]⟩ else ⟨A2, n2, c2, xs2⟩
  obtain ⟨W2, hW2⟩ : ∃ W2, W1.alloc (.cells #[.slice A1 n1 c1, .slice (some ⟨W.heap.size, 0, none⟩) 1 1, .slice A2 n2 c2] 53) = W2 := ⟨_, rfl⟩
  have hz2 : W2.heap.size = W.heap.size + 2 := by rw [← hW2]; simp [hz1]
  have hb2 : Below W1.heap.size W1 W2 := by rw [← hW2]; exact (Below.refl _ _).alloc (Nat.le_refl _) _
  have hcell : ∀ k, k < 3 → W2.cell? ⟨W.heap.size + 1, k, none⟩ = some (.slice (pc k).A (pc k).n (pc k).c) := fun k hk => by
    rw [← hW2, ← hz1]
    rcases (by omega : k = 0 ∨ k = 1 ∨ k = 2) with rfl | rfl | rfl <;> simp [pc]
  have hat : PcAt W2 (W.heap.size + 2) (W.heap.size + 1) 3 pc := fun k hk => ⟨hcell k hk, by
    rcases (by omega : k = 0 ∨ k = 1 ∨ k = 2) with rfl | rfl | rfl
    · exact ((h1.below hb1).more (by omega : W.heap.size ≤ W1.heap.size)).below hb2 |>.more (by omega)
    · exact ((ho.more (by omega : W.heap.size + 1 ≤ W1.heap.size)).below hb2).more (by omega)
    · exact ((h2.below hb1).more (by omega : W.heap.size ≤ W1.heap.size)).below hb2 |>.more (by omega)⟩
  have hcat : catP pc 3 = xs1 ++ [t] ++ xs2 := by simp [catP, pc]
  have hlen : (catP pc 3).length = N := by rw [hcat]; simp; omega
  have hc := concat_any W2 (W.heap.size + 2) (W.heap.size + 1) 3 pc hat (by omega) (by omega) (by omega) (by omega) (by omega)
  rw [hlen, hcat] at hc
  rw [hW2]
  refine hc.mono ?_
  rintro e w' ⟨A, c, rfl, hown, hbw⟩
  refine ⟨A, c, rfl, hown.mono (by omega), ?_⟩
  exact (hb1.trans (hb2.mono (by omega))).trans (hbw.mono (by omega))
theorem concat_two (W : World) (b2 : Nat) (A1 A2 : Option Addr) (n1 c1 n2 c2 N : Nat) (xs1 xs2 : List Int) (h1 : ArgI W W.heap.size A1 n1 c1 xs1) (h2 : ArgI W W.heap.size A2 n2 c2 xs2)
    (e2 : b2 = W.heap.size) (hN : n1 + n2 = N) (hb : N ≤ 1000) :
    Calls Try.prog 75 #[.slice (some ⟨b2, 0, none⟩) 2 2] (W.alloc (.cells #[.slice A1 n1 c1, .slice A2 n2 c2] 53))
      fun e w' => ∃ A c, e = .returned (.slice A N c) ∧ OwnI w' W.heap.size A N c (xs1 ++ xs2) ∧ Below W.heap.size W w' := by
  subst e2
  have hl1 := h1.len
  have hl2 := h2.len
  let pc : Nat → Pc := fun k => if k = 0 then ⟨A1, n1, c1, xs1⟩ else ⟨A2, n2, c2, xs2⟩
  obtain ⟨W2, hW2⟩ : ∃ W2, W.alloc (.cells #[.slice A1 n1 c1, .slice A2 n2 c2] 53) = W2 := ⟨_, rfl⟩
  have hz2 : W2.heap.size = W.heap.size + 1 := by rw [← hW2]; simp
  have hb2 : Below W.heap.size W W2 := by rw [← hW2]; exact (Below.refl _ _).alloc (Nat.le_refl _) _
  have hcell : ∀ k, k < 2 → W2.cell? ⟨W.heap.size, k, none⟩ = some (.slice (pc k).A (pc k).n (pc k).c) := fun k hk => by
    rw [← hW2]
    rcases (by omega : k = 0 ∨ k = 1) with rfl | rfl <;> simp [pc]
  have hat : PcAt W2 (W.heap.size + 1) W.heap.size 2 pc := fun k hk => ⟨hcell k hk, by
    rcases (by omega : k = 0 ∨ k = 1) with rfl | rfl
    · exact (h1.below hb2).more (by omega)
    · exact (h2.below hb2).more (by omega)⟩
  have hcat : catP pc 2 = xs1 ++ xs2 := by simp [catP, pc]
  have hlen : (catP pc 2).length = N := by rw [hcat]; simp; omega
  have hc := concat_any W2 (W.heap.size + 1) W.heap.size 2 pc hat (by omega) (by omega) (by omega) (by omega) (by omega)
  rw [hlen, hcat] at hc
  rw [hW2]
  refine hc.mono ?_
  rintro e w' ⟨A, c, rfl, hown, hbw⟩
  exact ⟨A, c, rfl, hown.mono (by omega), hb2.trans (hbw.mono (by omega))⟩

theorem concat_three_d (W : World) (b1 b2 : Nat) (t : Int) (A1 A2 : Option Addr) (n1 c1 n2 c2 N : Nat) (xs1 xs2 : List Int) (h1 : ArgI W W.heap.size A1 n1 c1 xs1) (h2 : ArgI W W.heap.size A2 n2 c2 xs2)
    (e1 : b1 = W.heap.size) (e2 : b2 = W.heap.size + 1) (hN : n1 + 1 + n2 = N) (hb : N ≤ 1000) :
    Calls Try.prog 75 #[.slice (some ⟨b2, 0, none⟩) 3 3] ((W.alloc (.cells #[.int .i64 t] 2)).alloc (.cells #[.slice A1 n1 c1, .slice (some ⟨b1, 0, none⟩) 1 1, .slice A2 n2 c2] 53)).drew
      fun e w' => ∃ A c, e = .returned (.slice A N c) ∧ OwnI w' W.heap.size A N c (xs1 ++ [t] ++ xs2) ∧ Below W.heap.size W w' := by
  have hd : Below W.heap.size W W.drew := (Below.refl _ _).drew
  have h := concat_three W.drew b1 b2 t A1 A2 n1 c1 n2 c2 N xs1 xs2 (h1.below hd) (h2.below hd) e1 e2 hN hb
  exact h.mono fun e w' ⟨A, c, he, ho, hw⟩ => ⟨A, c, he, ho, hd.trans hw⟩
theorem concat_two_d (W : World) (b2 : Nat) (A1 A2 : Option Addr) (n1 c1 n2 c2 N : Nat) (xs1 xs2 : List Int) (h1 : ArgI W W.heap.size A1 n1 c1 xs1) (h2 : ArgI W W.heap.size A2 n2 c2 xs2)
    (e2 : b2 = W.heap.size) (hN : n1 + n2 = N) (hb : N ≤ 1000) :
    Calls Try.prog 75 #[.slice (some ⟨b2, 0, none⟩) 2 2] (W.alloc (.cells #[.slice A1 n1 c1, .slice A2 n2 c2] 53)).drew
      fun e w' => ∃ A c, e = .returned (.slice A N c) ∧ OwnI w' W.heap.size A N c (xs1 ++ xs2) ∧ Below W.heap.size W w' := by
  have hd : Below W.heap.size W W.drew := (Below.refl _ _).drew
  have h := concat_two W.drew b2 A1 A2 n1 c1 n2 c2 N xs1 xs2 (h1.below hd) (h2.below hd) e2 hN hb
  exact h.mono fun e w' ⟨A, c, he, ho, hw⟩ => ⟨A, c, he, ho, hd.trans hw⟩

theorem semB_form {p : Int} {xs : List Int} (h : semB p xs = true) : 1 ≤ p ∧ p ≤ 64 ∧ (xs.length : Int) ≤ p ∧ okList 0 xs = true := by
  unfold semB at h
  simp only [Bool.and_eq_true, decide_eq_true_eq] at h
  exact ⟨h.1.1.1, h.1.1.2, h.1.2, h.2⟩

set_option maxHeartbeats 800000 in
theorem permFree_any (w : World) (B : Nat) (A : Option Addr) (n c : Nat) (xs : List Int) (p : Int) (h : ArgI w B A n c xs) (hB : B ≤ w.heap.size) :
    Calls Try.prog 94 #[.agg #[.int .i64 p, .slice A n c]] w (ValEnd w (.tuple #[.int .i64 (if semB p xs = true then p - n else 0), .int .i64 (semV p xs)])) := by
  have HC := Lib.hid (permCheck_any (w.alloc (.cells #[.int .i64 p, .slice A n c] 93)) w.heap.size A n c xs p ((h.more hB).below ((Below.refl _ w).alloc (Nat.le_refl _) _)) (by simp))
  have HV : Hid (semV p xs = if semB p xs = true then 0 else 3) := Lib.hid rfl
  rcases hs : semB p xs with _ | _
  · have hv : semV p xs = 3 := by rw [HV.out, hs]; rfl
    rw [hv] at HC ⊢
    clear h hs hv HV
    go_enter Try.func94, Try.ntmps94
    go_wp2_with fail
    with_reducible refine (HC.out).mono ?_
    rintro e w1 ⟨rfl, hb⟩
    have HB1 := Lib.hid (((Below.refl w.heap.size w).alloc (Nat.le_refl _) _).trans (hb.mono (by simp)))
    clear hb
    go_wp2
    go_ret2
    exact ⟨rfl, HB1.out⟩
  · have hv : semV p xs = 0 := by rw [HV.out, hs]; rfl
    rw [hv] at HC ⊢
    have hf := semB_form hs
    have hl := h.len
    have p1 : (1 : Int) ≤ p := hf.1
    have p2 : p ≤ 64 := hf.2.1
    have p3 : (n : Int) ≤ p := by omega
    clear h hs hv HV hf hl
    go_enter Try.func94, Try.ntmps94
    go_wp2_with fail
    with_reducible refine (HC.out).mono ?_
    rintro e w1 ⟨rfl, hb⟩
    have bl := (BlkL.new w [.int .i64 p, .slice A n c] 93).below hb
    have HB1 := Lib.hid (((Below.refl w.heap.size w).alloc (Nat.le_refl _) _).trans (hb.mono (by simp)))
    clear hb
    have c0 := bl.cell 0 _ rfl
    have c1 := bl.cell 1 _ rfl
    clear bl
    go_wp2
    go_ret2
    exact ⟨by simp, HB1.out⟩

end Go.Proofs.Ytnkecjjfbllgdaa
