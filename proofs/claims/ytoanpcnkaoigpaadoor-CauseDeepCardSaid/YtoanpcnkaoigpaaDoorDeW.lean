/- A program whose functions are laid one by one into a list that was made. -/
import Derived.Test.YtoanpcnkaoigpaaDoorDeM
import Derived.Test.YtoanpcnkaoigpaaDoorFuC
namespace Go.Proofs.YtoanpcnkaoigpaaDoor
open Go.RowKit
set_option maxRecDepth 100000
set_option linter.unusedVariables false
set_option linter.unusedSimpArgs false

def ldV : Option (Nat × List ActV) → Value
  | none => .slice none 0 0
  | some q => .slice (some ⟨q.1, 0, none⟩) q.2.length q.2.length
structure LdI (W0 W : World) (ob N : Nat) (F : Nat → Option (Nat × List ActV)) : Prop where
  off : Off [ob] W0 W
  out : BlkL W ob ((List.range N).map fun j => ldV (F j))
  fs : ∀ j b f, F j = some (b, f) → BlkL W b (FAc f) ∧ W0.heap.size ≤ b
theorem LdI.start {W : World} {ob N : Nat} (h : BlkL W ob (List.replicate N (.slice none 0 0))) : LdI W W ob N (fun _ => none) := by
  refine ⟨Off.refl _ _, ?_, fun j b f q => by cases q⟩
  have e : ((List.range N).map fun _ => ldV none) = List.replicate N (.slice none 0 0) := by
    refine List.ext_getElem (by simp) fun i h1 h2 => by simp [ldV]
  rw [e]
  exact h
theorem LdI.put {W0 W : World} {ob N : Nat} {F : Nat → Option (Nat × List ActV)} (h : LdI W0 W ob N F) (hob : ob < W0.heap.size) (j : Nat) (hj : j < N) (g : List ActV) (xs : List Value) (hx : xs = FAc g) (t : TypeId) (l : Nat) (hl : g.length = l) :
    LdI W0 ((W.setCell ⟨ob, j, none⟩ (.slice (some ⟨W.heap.size, 0, none⟩) l l)).alloc (.cells xs.toArray t)) ob N (fun x => if x = j then some (W.heap.size, g) else F x) := by
  subst hx hl
  have hs := h.off.size
  refine ⟨(h.off.setCell (by simp) _).alloc _, ?_, ?_⟩
  · have q := (h.out.set j (.slice (some ⟨W.heap.size, 0, none⟩) g.length g.length) (by simpa using hj)).alloc (.cells (FAc g).toArray t)
    have e : ((List.range N).map fun j => ldV (F j)).set j (.slice (some ⟨W.heap.size, 0, none⟩) g.length g.length) = (List.range N).map fun x => ldV (if x = j then some (W.heap.size, g) else F x) := by
      refine List.ext_getElem (by simp) fun i h1 h2 => ?_
      simp only [List.getElem_set, List.getElem_map, List.getElem_range]
      by_cases hi : j = i
      · subst hi; simp [ldV]
      · rw [if_neg hi, if_neg (by omega)]
    rw [e] at q
    exact q
  · intro x b f hq
    try dsimp only at hq
    by_cases hi : x = j
    · rw [if_pos hi] at hq
      injection hq with hq
      injection hq with q1 q2
      subst q1 q2
      have q := BlkL.new (W.setCell ⟨ob, j, none⟩ (.slice (some ⟨W.heap.size, 0, none⟩) g.length g.length)) (FAc g) t
      rw [show (W.setCell ⟨ob, j, none⟩ (.slice (some ⟨W.heap.size, 0, none⟩) g.length g.length)).heap.size = W.heap.size by simp] at q
      exact ⟨q, hs⟩
    · rw [if_neg hi] at hq
      obtain ⟨f1, f2⟩ := h.fs x b f hq
      exact ⟨(f1.other ob _ _ (by omega)).alloc _, f2⟩
theorem LdI.prog {W0 W : World} {ob N : Nat} {F : Nat → Option (Nat × List ActV)} (h : LdI W0 W ob N F) (f : Nat → List ActV) (hF : ∀ j, j < N → ∃ b, F j = some (b, f j)) : ProgQ W W.heap.size (.slice (some ⟨ob, 0, none⟩) N N) ((List.range N).map f) := by
  refine ⟨some ⟨ob, 0, none⟩, N, by simp, (fun e => by cases e), fun ad ha => ?_⟩
  injection ha with ha
  subst ha
  refine ⟨rfl, h.out.lt, fun i g hg => ?_⟩
  rw [List.getElem?_map] at hg
  have hi : i < N := by
    by_cases hi : i < N
    · exact hi
    · rw [List.getElem?_eq_none (by simpa using hi)] at hg; cases hg
  rw [List.getElem?_range hi] at hg
  injection hg with hg
  subst hg
  obtain ⟨b, hb⟩ := hF i hi
  obtain ⟨f1, f2⟩ := h.fs i b _ hb
  refine ⟨ldV (F i), by have := h.out.cell i (ldV (F i)) (by simp [hi]); simpa using this, ?_⟩
  rw [hb]
  exact ActP.of_blk f1 f1.lt
/-- What stands when i rounds are done. -/
def DeepL (d kk i : Nat) (a : ActV) (F : Nat → Option (Nat × List ActV)) : Prop := ∀ j, j < i ∨ d + 1 ≤ j ∧ j < d + 1 + i → ∃ b, F j = some (b, deepF d kk a j)
theorem DeepL.two {d kk i : Nat} {a : ActV} {F : Nat → Option (Nat × List ActV)} (h : DeepL d kk i a F) (hi : i < d) {b1 b2 : Nat} {g1 g2 : List ActV} (e1 : g1 = deepF d kk a i) (e2 : g2 = deepF d kk a (d + 1 + i)) :
    DeepL d kk (i + 1) a (fun x => if x = d + 1 + i then some (b2, g2) else if x = i then some (b1, g1) else F x) := by
  intro j hj
  try dsimp only
  by_cases h1 : j = d + 1 + i
  · subst h1; rw [if_pos rfl]; exact ⟨b2, by rw [e2]⟩
  rw [if_neg h1]
  by_cases h2 : j = i
  · subst h2; rw [if_pos rfl]; exact ⟨b1, by rw [e1]⟩
  rw [if_neg h2]
  exact h j (by omega)
theorem DeepL.three {d kk i : Nat} {a : ActV} {F : Nat → Option (Nat × List ActV)} (h : DeepL d kk i a F) (hi : i < d) {b1 b2 b3 : Nat} {g1 g2 g3 : List ActV} (e1 : g1 = deepF d kk a i) (e3 : g3 = deepF d kk a (d + 1 + i)) :
    DeepL d kk (i + 1) a (fun x => if x = d + 1 + i then some (b3, g3) else if x = d + 1 + i then some (b2, g2) else if x = i then some (b1, g1) else F x) := by
  intro j hj
  try dsimp only
  by_cases h1 : j = d + 1 + i
  · subst h1; rw [if_pos rfl]; exact ⟨b3, by rw [e3]⟩
  rw [if_neg h1, if_neg h1]
  by_cases h2 : j = i
  · subst h2; rw [if_pos rfl]; exact ⟨b1, by rw [e1]⟩
  rw [if_neg h2]
  exact h j (by omega)
theorem DeepL.all {d kk : Nat} {a : ActV} {F : Nat → Option (Nat × List ActV)} (h : DeepL d kk d a F) {b : Nat} : ∀ j, j < 2 * d + 1 → ∃ c, (fun x => if x = d then some (b, [a]) else F x) j = some (c, deepF d kk a j) := by
  intro j hj
  try dsimp only
  by_cases h1 : j = d
  · subst h1; rw [if_pos rfl]; exact ⟨b, by simp [deepF]⟩
  rw [if_neg h1]
  exact h j (by omega)
theorem run_deepP {w0 W : World} (h0 : Lib0 w0) (hb : Below w0.heap.size w0 W) {Pa : Value} {d kk K : Nat} {n : Int} {e : PanV} (hd : d ≤ 12) (hd0 : 1 ≤ d) (hK : 11 ≤ K ∧ K ≤ 24) (he : endV K n = e) (hq : ProgQ W W.heap.size Pa (deepP d kk (K, n))) (h1 : -9223372036854775808 ≤ n) (h2 : n ≤ 9223372036854775807)
    (oc on : Int) (hoc : ((noneV (deepO d kk e 0)).1 : Int) = oc) (hon : (noneV (deepO d kk e 0)).2 = on) :
    Calls Tryd.prog 13 #[Pa] W (RunM W (deepM d kk e d).length oc on (deepM d kk e d)) := by
  obtain ⟨r1, r2⟩ := deepP_run (kk := kk) hd hK.1 he
  refine (run_ok h0 hb hq (deepP_ok hd hd0 hK h1 h2)).mono ?_
  intro x w' hE
  obtain ⟨A, c, k1, k2, k3⟩ := hE
  rw [r1, r2, hoc, hon] at k1
  rw [r2] at k2
  exact ⟨A, c, k1, k2, k3⟩
theorem deepE_len (d kk : Nat) (e : PanV) (i : Nat) : (deepE d kk e i).length ≤ 3 := by
  unfold deepE
  split <;> split <;> simp
theorem deepM_len (d kk : Nat) (e : PanV) : ∀ t, (deepM d kk e t).length ≤ 3 * t
  | 0 => by simp [deepM]
  | t + 1 => by have := deepM_len d kk e t; have := deepE_len d kk e (d - 1 - t); simp only [deepM, List.length_append]; omega
end Go.Proofs.YtoanpcnkaoigpaaDoor
