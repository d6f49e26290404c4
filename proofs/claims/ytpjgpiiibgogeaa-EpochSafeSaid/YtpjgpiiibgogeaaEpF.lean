/- An Epochs: apart from more blocks; how a step's function value ends. -/
import Derived.Test.YtpjgpiiibgogeaaEpE
namespace Go.Proofs.Ytpjgpiiibgogeaa
open Go.RowKit
set_option maxRecDepth 100000
set_option linter.unusedVariables false

/-- The block of a list of things. -/
def thX : Option Addr → List Nat
  | none => []
  | some a => [a.block]
/-- Blocks from B on may have changed, but for those of X. -/
def FrX (B : Nat) (X : List Nat) (w w' : World) : Prop := ∃ S, Off S w w' ∧ ∀ y ∈ S, B ≤ y ∧ y ∉ X
section
variable {w w' w2 : World} {B : Nat} {X X' : List Nat}
theorem FrX.size (h : FrX B X w w') : w.heap.size ≤ w'.heap.size := by obtain ⟨S, h1, _⟩ := h; exact h1.size
theorem FrX.of_below (h : Below w.heap.size w w') : FrX B X w w' := ⟨[], Off.of_below h, by simp⟩
theorem FrX.below (h : FrX B X w w') (hB : B ≤ w.heap.size) : Below B w w' := by
  obtain ⟨S, h1, h2⟩ := h; exact h1.below hB (fun y hy => (h2 y hy).1)
theorem FrX.trans (h : FrX B X w w') (k : FrX B X w' w2) : FrX B X w w2 := by
  obtain ⟨S, h1, h2⟩ := h
  obtain ⟨S', h3, h4⟩ := k
  refine ⟨S ++ S', (h1.mono (fun y hy => List.mem_append_left _ hy)).trans (h3.mono (fun y hy => List.mem_append_right _ hy)), fun y hy => ?_⟩
  rcases List.mem_append.1 hy with e | e
  · exact h2 y e
  · exact h4 y e
theorem FrX.weak (h : FrX B X w w') (hX : ∀ y ∈ X', y ∈ X) : FrX B X' w w' := by
  obtain ⟨S, h1, h2⟩ := h
  exact ⟨S, h1, fun y hy => ⟨(h2 y hy).1, fun hm => (h2 y hy).2 (hX y hm)⟩⟩
theorem FrX.blk {b : Nat} {xs : List Value} (h : FrX B X w w') (hk : BlkL w b xs) (hb : b < B ∨ b ∈ X) : BlkL w' b xs := by
  obtain ⟨S, h1, h2⟩ := h
  refine hk.off h1 (fun hm => ?_)
  have := h2 b hm
  rcases hb with e | e
  · omega
  · exact this.2 e
end
section
variable {w w' : World} {B x b bw wb W : Nat} {X X' : List Nat} {k : Nat} {s : EpV} {fv : Nat → Value} {rA : Nat → Option Addr} {rc : Nat → Nat} {ring : List Value} {S : List Nat}
/-- Fewer blocks to lie apart from, and new ones. -/
theorem EpR.reX (h : EpR w B x b bw wb W X k s fv rA rc ring) (hb : Below w.heap.size w w') (hX : ∀ y ∈ X', y ∈ X ∨ (w.heap.size ≤ y ∧ y < w'.heap.size)) : EpR w' B x b bw wb W X' k s fv rA rc ring := by
  have h' := h.below hb
  obtain ⟨l1, l2, l3, l4⟩ := h.lts
  refine ⟨h'.xb, h'.m, h'.wk, h'.row, h'.dis, fun j hj a ha hm => ?_, fun j hj => ?_, h'.nx, fun y hy hm => ?_, fun y hy => ?_, h'.w64, h'.ge⟩
  · have hlt := ((h.row j hj).lt a ha).2
    have hr := h.rX j hj a ha
    simp only [List.mem_cons, not_or] at hr hm
    rcases hm with e | e | e | e | e
    · exact hr.1 e
    · exact hr.2.1 e
    · exact hr.2.2.1 e
    · exact hr.2.2.2.1 e
    · rcases hX _ e with e2 | e2
      · exact hr.2.2.2.2 e2
      · omega
  · refine ((h.cl j hj).weak (Q' := QE x b bw wb W X' rA) (fun p hp hq => ?_)).off (Off.of_below (S := []) hb) (by simp)
    rcases hq with hq | hq
    · left
      simp only [List.mem_cons] at hq ⊢
      rcases hq with e | e | e | e | e
      · exact .inl e
      · exact .inr (.inl e)
      · exact .inr (.inr (.inl e))
      · exact .inr (.inr (.inr (.inl e)))
      · rcases hX _ e with e2 | e2
        · exact .inr (.inr (.inr (.inr e2)))
        · omega
    · exact .inr hq
  · rcases hX y hy with e | e
    · exact h.nX y e hm
    · simp only [List.mem_cons, List.not_mem_nil, or_false] at hm
      omega
  · rcases hX y hy with e | e
    · have := h.hX y e; have := hb.size; omega
    · exact e.2
theorem EpR.fr2 (h : EpR w B x b bw wb W X k s fv rA rc ring) (hf : Off [b, bw] w w') : FrX B X w w' := by
  refine ⟨_, hf, fun y hy => ?_⟩
  have hg := h.ge
  have hn := fun hm => h.nX y hm
  simp only [List.mem_cons, List.not_mem_nil, or_false] at hy hn
  refine ⟨by omega, fun hm => hn hm ?_⟩
  rcases hy with e | e
  · exact .inr (.inl e)
  · exact .inr (.inr (.inl e))
theorem EpR.fr1 (h : EpR w B x b bw wb W X k s fv rA rc ring) (hf : Off [wb] w w') : FrX B X w w' := by
  refine ⟨_, hf, fun y hy => ?_⟩
  have hg := h.ge
  have hn := fun hm => h.nX y hm
  simp only [List.mem_cons, List.not_mem_nil, or_false] at hy hn
  exact ⟨by omega, fun hm => hn hm (.inr (.inr (.inr hy)))⟩
theorem EpR.frR (h : EpR w B x b bw wb W X k s fv rA rc ring) {i : Nat} (hi : i < W) (hf : Off S w w') (hS : ∀ y ∈ S, ∃ a, rA i = some a ∧ a.block = y) : FrX B X w w' := by
  refine ⟨_, hf, fun y hy => ?_⟩
  obtain ⟨a, e, rfl⟩ := hS y hy
  refine ⟨((h.row i hi).lt a e).1, fun hm => h.rX i hi a e ?_⟩
  simp [hm]
end
def RsV (q : EqV) (A : Option Addr) (c : Nat) : Value := .agg #[.bool q.d, .int .i64 (q.e : Int), .int .i64 q.n, .slice A q.th.length c]
/-- How the function value of a pending call ends: its result; the Epochs; what it does next. -/
def ClR (w : World) (B x b bw wb W : Nat) (X : List Nat) (k : Nat) (fv : Nat → Value) (i : Nat) (t : StE) (e : Ending) (w' : World) : Prop :=
  ∃ A c rA' rc' ring' f, e = .returned (.tuple #[RsV t.q A c, f]) ∧ EpR w' B x b bw wb W (thX A ++ X) (k + 1) t.s fv rA' rc' ring' ∧ ClV w' (QE x b bw wb W (thX A ++ X) rA') (capsE x i t.y) f ∧
    OwnC w' w.heap.size TI 1 A t.q.th.length c (thI t.q.th) ∧ FrX B X w w'
theorem ClR.mk {w w' : World} {B x b bw wb W : Nat} {X : List Nat} {k : Nat} {fv : Nat → Value} {i : Nat} {q : EqV} {s : EpV} {y : EN} {f : Value} {rA' : Nat → Option Addr} {rc' : Nat → Nat} {ring' : List Value} {e : Ending}
    (hq : q.th = []) (he : e = .returned (.tuple #[.agg #[.bool q.d, .int .i64 (q.e : Int), .int .i64 q.n, .slice none 0 0], f])) (h : EpR w' B x b bw wb W X (k + 1) s fv rA' rc' ring') (hc : ClV w' (QE x b bw wb W X rA') (capsE x i y) f) (hf : FrX B X w w') : ClR w B x b bw wb W X k fv i ⟨q, s, y⟩ e w' := by
  obtain ⟨d, e', n, th⟩ := q
  simp only at hq; subst hq
  exact ⟨none, 0, rA', rc', ring', f, he, h, hc, World.ownsRow_nil _ _ _ _, hf⟩
theorem off_put4 {S : List Nat} {w w' : World} (h : Off S w w') {r : Nat} (hr : r ∈ S) (v0 v1 v2 v3 : Value) : Off S w ((((w'.setCell ⟨r, 0, none⟩ v0).setCell ⟨r, 1, none⟩ v1).setCell ⟨r, 2, none⟩ v2).setCell ⟨r, 3, none⟩ v3) :=
  (((h.setCell (p := ⟨r, 0, none⟩) hr v0).setCell (p := ⟨r, 1, none⟩) hr v1).setCell (p := ⟨r, 2, none⟩) hr v2).setCell (p := ⟨r, 3, none⟩) hr v3
/-- .. where the result was written into a block of its own, the first one that the call made. -/
theorem ClR.fin {w w5 : World} {B x b bw wb W : Nat} {X : List Nat} {k : Nat} {fv : Nat → Value} {i : Nat} {q : EqV} {s : EpV} {y : EN} {f : Value} {rA' : Nat → Option Addr} {rc' : Nat → Nat} {ring' : List Value} {e : Ending}
    (hB : B ≤ w.heap.size) (hX : ∀ y ∈ X, y < w.heap.size) (h : EpR w5 B x b bw wb W (w.heap.size :: X) (k + 1) s fv rA' rc' ring') (hc : ClV w5 (QE x b bw wb W (w.heap.size :: X) rA') (capsE x i y) f) (hf : FrX B X w w5) (v0 v1 v2 v3 : Value)
    (hq : q.th = []) (he : e = .returned (.tuple #[.agg #[.bool q.d, .int .i64 (q.e : Int), .int .i64 q.n, .slice none 0 0], f])) :
    ClR w B x b bw wb W X k fv i ⟨q, s, y⟩ e ((((w5.setCell ⟨w.heap.size, 0, none⟩ v0).setCell ⟨w.heap.size, 1, none⟩ v1).setCell ⟨w.heap.size, 2, none⟩ v2).setCell ⟨w.heap.size, 3, none⟩ v3) := by
  have hp := off_put4 (Off.refl [w.heap.size] w5) (r := w.heap.size) (by simp) v0 v1 v2 v3
  have hn : w.heap.size ∉ X := fun hm => by have := hX _ hm; omega
  refine ClR.mk hq he ((h.offX hp (by simp)).reX (Below.refl _ _) (fun y hy => .inl (by simp [hy]))) ?_ (hf.trans ⟨_, hp, fun y hy => ?_⟩)
  · refine (hc.off hp (fun y hy => .inl (by simp only [List.mem_cons, List.not_mem_nil, or_false] at hy; simp [hy]))).weak (fun p _ hq' => ?_)
    rcases hq' with hq' | hq'
    · left; simp only [List.mem_cons] at hq' ⊢
      rcases hq' with e | e | e | e | e <;> simp [e]
    · exact .inr hq'
  · simp only [List.mem_cons, List.not_mem_nil, or_false] at hy
    subst hy
    exact ⟨hB, hn⟩
end Go.Proofs.Ytpjgpiiibgogeaa
