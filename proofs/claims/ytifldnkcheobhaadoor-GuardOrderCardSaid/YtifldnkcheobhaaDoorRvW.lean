/- The same program as the law lays it in memory, function by function. -/
import Derived.Test.YtifldnkcheobhaaDoorRvM
namespace Go.Proofs.YtifldnkcheobhaaDoor
open Go.RowKit
set_option maxRecDepth 100000
set_option linter.unusedVariables false
set_option linter.unusedSimpArgs false

/-- u functions of k are laid. -/
structure RvI (W0 W : World) (ob k u : Nat) (A : Option Addr) (c : Nat) (b : Nat → Nat) : Prop where
  off : Off [ob] W0 W
  out : BlkL W ob (.slice A u c :: (List.range k).map fun j => if j < u then .slice (some ⟨b j, 0, none⟩) 1 1 else .slice none 0 0)
  own : OwnS W W0.heap.size 2 A u c (FAc (defsV (List.range' 1 u)))
  fs : ∀ j, j < u → BlkL W (b j) [.int .u8 1, .int .i64 ((j + 1 : Nat) : Int)] ∧ W0.heap.size ≤ b j ∧ b j ∉ bkV A
theorem FAc_next (u : Nat) : FAc (defsV (List.range' 1 (u + 1))) = FAc (defsV (List.range' 1 u)) ++ [.int .u8 3, .int .i64 ((u + 1 : Nat) : Int)] := by
  simp [List.range'_1_concat, defsV, FAc, Nat.add_comm]
theorem off_own {W0 W1 W2 : World} {ob : Nat} {S : List Nat} (h : Off [ob] W0 W1) (hf : Off S W1 W2) (hS : ∀ y ∈ S, W0.heap.size ≤ y) : Off [ob] W0 W2 :=
  ⟨hf.os.trans h.os, hf.tape.trans h.tape, hf.output.trans h.output, Nat.le_trans h.size hf.size, fun i hi hs => (hf.block i (Nat.lt_of_lt_of_le hi h.size) (fun q => by have := hS i q; omega)).trans (h.block i hi hs)⟩
theorem RvI.step {W0 W W1 W2 : World} {ob k u c c' t : Nat} {A A' : Option Addr} {b : Nat → Nat} (h : RvI W0 W ob k u A c b) (hob : ob < W0.heap.size) (hu : u < k) (h1 : Below W.heap.size W W1)
    (ho : OwnS W2 W0.heap.size 2 A' (u + 1) c' (FAc (defsV (List.range' 1 u)) ++ [.int .u8 3, .int .i64 ((u + 1 : Nat) : Int)])) (hf : Off (bkV A) W1 W2) (hbk : ∀ y ∈ bkV A', y ∈ bkV A ∨ y = W1.heap.size ∧ y < W2.heap.size) :
    RvI W0 (((W2.setCell ⟨ob, 0, none⟩ (.slice A' (u + 1) c')).setCell ⟨ob, u + 1, none⟩ (.slice (some ⟨W2.heap.size, 0, none⟩) 1 1)).alloc (.cells #[.int .u8 1, .int .i64 ((u + 1 : Nat) : Int)] t)) ob k (u + 1) A' c' (fun j => if j = u then W2.heap.size else b j) := by
  have hoA : ob ∉ bkV A := fun q => by have := (h.own.lt ob q).1; omega
  have hoA' : ob ∉ bkV A' := fun q => by have := (ho.lt ob q).1; omega
  have o2 : Off [ob] W0 W2 := off_own (h.off.trans (Off.of_below h1)) hf (fun y hy => (h.own.lt y hy).1)
  have hs0 := h.off.size
  have hs1 := h1.size
  have hs2 := hf.size
  refine ⟨((o2.setCell (by simp) _).setCell (by simp) _).alloc _, ?_, ?_, ?_⟩
  · have q := ((((h.out.below h1).off hf hoA).set 0 (.slice A' (u + 1) c') (by simp)).set (u + 1) (.slice (some ⟨W2.heap.size, 0, none⟩) 1 1) (by simp; omega)).alloc (.cells #[.int .u8 1, .int .i64 ((u + 1 : Nat) : Int)] t)
    simp only [List.set_cons_zero, List.set_cons_succ] at q
    have e : ((List.range k).map fun j => if j < u then Value.slice (some ⟨b j, 0, none⟩) 1 1 else .slice none 0 0).set u (.slice (some ⟨W2.heap.size, 0, none⟩) 1 1) = (List.range k).map fun j => if j < u + 1 then Value.slice (some ⟨if j = u then W2.heap.size else b j, 0, none⟩) 1 1 else .slice none 0 0 := by
      refine List.ext_getElem (by simp) fun i h1 h2 => ?_
      simp only [List.getElem_set, List.getElem_map, List.getElem_range]
      by_cases hiu : u = i
      · subst hiu; simp
      · rw [if_neg hiu]
        by_cases hlt : i < u
        · rw [if_pos hlt, if_pos (by omega), if_neg (by omega)]
        · rw [if_neg hlt, if_neg (by omega)]
    rw [e] at q
    exact q
  · rw [FAc_next]
    exact ho.off (S := [ob]) ((((Off.refl [ob] W2).setCell (by simp) _).setCell (by simp) _).alloc _) (by simp; intro y hy hyo; exact hoA' (hyo ▸ hy))
  · intro j hj
    by_cases hju : j = u
    · subst hju
      rw [if_pos rfl]
      have q := BlkL.new ((W2.setCell ⟨ob, 0, none⟩ (.slice A' (j + 1) c')).setCell ⟨ob, j + 1, none⟩ (.slice (some ⟨W2.heap.size, 0, none⟩) 1 1)) [.int .u8 1, .int .i64 ((j + 1 : Nat) : Int)] t
      have es : ((W2.setCell ⟨ob, 0, none⟩ (.slice A' (j + 1) c')).setCell ⟨ob, j + 1, none⟩ (.slice (some ⟨W2.heap.size, 0, none⟩) 1 1)).heap.size = W2.heap.size := by simp
      rw [es] at q
      exact ⟨q, by omega, fun q => by have := (ho.lt _ q).2; omega⟩
    · rw [if_neg hju]
      obtain ⟨f1, f2, f3⟩ := h.fs j (by omega)
      have hl := f1.lt
      refine ⟨(((((f1.below h1).off hf f3).other ob _ _ (by omega)).other ob _ _ (by omega)).alloc _), f2, fun q => ?_⟩
      rcases hbk _ q with q | q
      · exact f3 q
      · omega
theorem RvI.done {W0 W W1 W2 : World} {ob k c c' : Nat} {A A' : Option Addr} {b : Nat → Nat} {a : ActV} (h : RvI W0 W ob k k A c b) (hob : ob < W0.heap.size) (h1 : Below W.heap.size W W1)
    (ho : OwnS W2 W0.heap.size 2 A' (k + 1) c' (FAc (defsV (List.range' 1 k)) ++ [.int .u8 (a.1 : Int), .int .i64 a.2])) (hf : Off (bkV A) W1 W2) :
    ProgQ (W2.setCell ⟨ob, 0, none⟩ (.slice A' (k + 1) c')) (W2.setCell ⟨ob, 0, none⟩ (.slice A' (k + 1) c')).heap.size (.slice (some ⟨ob, 0, none⟩) (k + 1) (k + 1)) (revP k a) ∧ Off [ob] W0 (W2.setCell ⟨ob, 0, none⟩ (.slice A' (k + 1) c')) := by
  have hoA : ob ∉ bkV A := fun q => by have := (h.own.lt ob q).1; omega
  have hoA' : ob ∉ bkV A' := fun q => by have := (ho.lt ob q).1; omega
  have o2 : Off [ob] W0 W2 := off_own (h.off.trans (Off.of_below h1)) hf (fun y hy => (h.own.lt y hy).1)
  have hs0 := h.off.size
  have hs1 := h1.size
  have hs2 := hf.size
  have ho3 := ho.off (S := [ob]) ((Off.refl [ob] W2).setCell (p := ⟨ob, 0, none⟩) (by simp) (.slice A' (k + 1) c')) (by simp; intro y hy hyo; exact hoA' (hyo ▸ hy))
  have hq := (((h.out.below h1).off hf hoA).set 0 (.slice A' (k + 1) c') (by simp))
  simp only [List.set_cons_zero] at hq
  refine ⟨⟨some ⟨ob, 0, none⟩, k + 1, by rw [revP_len], (fun e => by cases e), fun ad ha => ?_⟩, o2.setCell (by simp) _⟩
  injection ha with ha
  subst ha
  refine ⟨rfl, hq.lt, fun i f hfi => ?_⟩
  cases i with
  | zero =>
    refine ⟨_, hq.cell 0 _ rfl, ?_⟩
    simp [revP] at hfi
    subst hfi
    refine ⟨A', c', by simp [defsV], (fun e => by have := (ho3.none_ e).1; omega), fun ad hA => ?_⟩
    obtain ⟨bb, off, e1, e2, e3, e4, e5⟩ := ho3.cell (by omega)
    rw [hA] at e1
    injection e1 with e1
    subst e1
    refine ⟨rfl, e3, e3, fun j x hx => ?_⟩
    have ef : FAc (defsV (List.range' 1 k)) ++ [.int .u8 (a.1 : Int), .int .i64 a.2] = FAc (defsV (List.range' 1 k) ++ [a]) := by simp [FAc]
    rw [ef] at e4
    obtain ⟨g1, g2⟩ := FAc_at _ j x hx
    exact ⟨e4 _ _ g1, e4 _ _ g2⟩
  | succ i =>
    have hi : i < k := by
      have := (List.getElem?_eq_some_iff.1 hfi).1
      rw [revP_len] at this
      omega
    rw [revP_at a hi] at hfi
    injection hfi with hfi
    subst hfi
    refine ⟨.slice (some ⟨b i, 0, none⟩) 1 1, ?_, ?_⟩
    · have := hq.cell (i + 1) (.slice (some ⟨b i, 0, none⟩) 1 1) (by simp [hi])
      simpa using this
    · obtain ⟨f1, f2, f3⟩ := h.fs i hi
      have q := ((f1.below h1).off hf f3).other ob 0 (.slice A' (k + 1) c') (by omega)
      exact ActP.of_blk (f := noteV (i + 1)) (by simpa [FAc, noteV] using q) q.lt
end Go.Proofs.YtifldnkcheobhaaDoor
