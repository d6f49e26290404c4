/- EpochSafe: a load may be taken first; own lists; the walk's state; three lists that grow in one statement; behind the script. -/
import Derived.OrdersHeld
import Derived.Deep.RegionHeld3
import Derived.Test.YtpjgpiiibgogeaaOff
import Derived.Laws.IdiomCopy
import Derived.Laws.Append
import Derived.Laws.AppendOwn
import Derived.Laws.Rows
import Derived.OwnWalk
import Derived.Test.YtpjgpiiibgogeaaEsX

/- A law on regions: a load may be taken first where only stores that wait for it write what it reads. -/
namespace Go.Proofs.Ytpjgpiiibgogeaa
set_option linter.unusedVariables false

section
variable {P : Program} {ops : Array Oper} {Q : Exit → Act → World → Prop} {md : Region.Mode} {S : World → Prop} {late : Nat → Bool}
/-- Up to the first late operation S holds behind each one; from then on nothing is asked of the worlds. -/
def wpLate (P : Program) (md : Region.Mode) (ops : Array Oper) (Q : Exit → Act → World → Prop) (S : World → Prop) (late : Nat → Bool) : Nat → Array Bool → Act → World → Prop
  | 0, l, a, w => Region.ready md ops l = [] ∧ Q .normal a w
  | n + 1, l, a, w => (Region.ready md ops l = [] → Q .normal a w) ∧
    ∀ j ∈ Region.ready md ops l, wpOp P ops Q j (fun a' w' => (late j = true → wpAny P md ops Q n (l.setIfInBounds j true) a' w') ∧ (late j = false → S w' ∧ wpLate P md ops Q S late n (l.setIfInBounds j true) a' w')) a w
theorem wpLate.any : ∀ (n : Nat) (l : Array Bool) (a : Act) (w : World), wpLate P md ops Q S late n l a w → wpAny P md ops Q n l a w := by
  intro n
  induction n with
  | zero => intro l a w h; exact h
  | succ n ih =>
    intro l a w h
    refine ⟨h.1, fun j hj => wpOp_mono (fun a' w' h' => ?_) (h.2 j hj)⟩
    rcases hl : late j with _ | _
    · exact ih _ _ _ (h'.2 hl).2
    · exact h'.1 hl
/-- What is listed has waited for what it waits for. -/
def Waits (md : Region.Mode) (ops : Array Oper) (l : Array Bool) : Prop := ∀ j o, ops[j]? = some o → l.getD j false = true → ∀ e ∈ o.after, Region.binds md e = true → l.getD e.on false = true
theorem Waits.none (n : Nat) : Waits md ops (Array.replicate n false) := fun j o _ h => by
  exfalso
  simp only [Array.getD_eq_getD_getElem?, Array.getElem?_replicate] at h
  split at h <;> simp at h
theorem Waits.set {l : Array Bool} {j : Nat} (h : Waits md ops l) (hj : j ∈ Region.ready md ops l) : Waits md ops (l.setIfInBounds j true) := by
  intro k o hk hl e he hb
  by_cases hjk : j = k
  · subst hjk
    obtain ⟨_, o', ho, hall⟩ := mem_ready.1 hj
    rw [hk] at ho
    injection ho with ho
    subst ho
    exact getD_set_true (hall e he hb)
  · rw [getD_set_ne false hjk] at hl
    exact getD_set_true (h k o hk hl e he hb)
theorem wpLate_load {i : Nat} {oi : Oper} {v : Value} (hi : ops[i]? = some oi) (hsel : ∀ (j : Nat) (o : Oper) cs b, ops[j]? = some o → o.op ≠ .select cs b)
    (hQ : ∀ c a w, Q (.panic c) (a.put oi.dst v) w → Q (.panic c) a w) (hlate : ∀ l, Waits md ops l → ∀ j ∈ Region.ready md ops l, late j = true → l.getD i false = true) :
    ∀ (n : Nat) (l : Array Bool) (a : Act) (w : World),
      (∀ j oj, ops[j]? = some oj → j ≠ i → l.getD j true = false → (∀ e ∈ oj.after, Region.binds md e = true → e.on ≠ i) → oi.apart ops oj = true) →
      Waits md ops l → i ∈ Region.ready md ops l → late i = false → YieldsIf P ops S oi v a → S w →
      wpLate P md ops Q S late n (l.setIfInBounds i true) (a.put oi.dst v) w → wpLate P md ops Q S late (n + 1) l a w := by
  intro n
  induction n with
  | zero =>
    intro l a w _ _ hr hli hy hS H
    refine ⟨fun h => (by rw [h] at hr; cases hr), fun j hj => ?_⟩
    by_cases hji : j = i
    · subst hji; exact hy.wpOp hi hS ⟨fun h => (by rw [hli] at h; cases h), fun _ => ⟨hS, H⟩⟩
    · have := ready_mono hj hji
      rw [H.1] at this
      cases this
  | succ n ih =>
    intro l a w hfree hW hr hli hy hS H
    refine ⟨fun h => (by rw [h] at hr; cases hr), fun j hj => ?_⟩
    by_cases hji : j = i
    · subst hji; exact hy.wpOp hi hS ⟨fun h => (by rw [hli] at h; cases h), fun _ => ⟨hS, H⟩⟩
    · have hun := (mem_ready.1 hr).1
      have hlj : late j = false := by
        rcases hl : late j with _ | _
        · rfl
        · have h1 := hlate l hW j hj hl
          rcases Nat.lt_or_ge i l.size with h' | h'
          · simp [h'] at h1 hun; rw [hun] at h1; cases h1
          · simp [Array.getElem?_eq_none h'] at h1
      obtain ⟨hjun, oj, hoj, hall⟩ := mem_ready.1 hj
      have hnot : ∀ e ∈ oj.after, Region.binds md e = true → e.on ≠ i := fun e he hb heq => by
        have h1 := hall e he hb
        rw [heq] at h1
        rcases Nat.lt_or_ge i l.size with h' | h'
        · simp [h'] at hun h1; rw [hun] at h1; cases h1
        · simp [Array.getElem?_eq_none h'] at h1
      have h2 := wpOp_putIf hoj (hfree j oj hoj hji hjun hnot) (fun cs b => hsel i oi cs b hi) (fun cs b => hsel j oj cs b hoj) hQ hy (H.2 j (ready_mono hj hji))
      refine wpOp_mono (fun a' w' h3 => ⟨fun h => (by rw [hlj] at h; cases h), fun _ => ?_⟩) h2
      obtain ⟨h4, h5⟩ := h3.2.2 hlj
      refine ⟨h4, ih (l.setIfInBounds j true) a' w' (fun k ok hk hki hkun hno => hfree k ok hk hki ?_ hno) (hW.set hj) (ready_mono hr (Ne.symm hji)) hli h3.1 h4 ?_⟩
      · by_cases hjk : j = k
        · subst hjk; exact hjun
        · rw [getD_set_ne true hjk] at hkun; exact hkun
      · rw [Array.setIfInBounds_comm _ _ hji]; exact h5
theorem yields_of_true {o : Oper} {v : Value} {a : Act} (h : YieldsIf P ops (fun _ => True) o v a) : Yields P ops o v a := h.imp (fun ⟨h1, h2⟩ => ⟨h1, fun w => h2 w trivial⟩) id
/-- What yields in whatever world may be taken first, whatever is late. -/
theorem wpLate_pure {i : Nat} {oi : Oper} {v : Value} (hi : ops[i]? = some oi) (hsel : ∀ (j : Nat) (o : Oper) cs b, ops[j]? = some o → o.op ≠ .select cs b)
    (hQ : ∀ c a w, Q (.panic c) (a.put oi.dst v) w → Q (.panic c) a w) :
    ∀ (n : Nat) (l : Array Bool) (a : Act) (w : World),
      (∀ j oj, ops[j]? = some oj → j ≠ i → l.getD j true = false → (∀ e ∈ oj.after, Region.binds md e = true → e.on ≠ i) → oi.apart ops oj = true) →
      i ∈ Region.ready md ops l → late i = false → Yields P ops oi v a → S w →
      wpLate P md ops Q S late n (l.setIfInBounds i true) (a.put oi.dst v) w → wpLate P md ops Q S late (n + 1) l a w := by
  intro n
  induction n with
  | zero =>
    intro l a w _ hr hli hy hS H
    refine ⟨fun h => (by rw [h] at hr; cases hr), fun j hj => ?_⟩
    by_cases hji : j = i
    · subst hji; exact hy.wpOp hi ⟨fun h => (by rw [hli] at h; cases h), fun _ => ⟨hS, H⟩⟩
    · have := ready_mono hj hji
      rw [H.1] at this
      cases this
  | succ n ih =>
    intro l a w hfree hr hli hy hS H
    refine ⟨fun h => (by rw [h] at hr; cases hr), fun j hj => ?_⟩
    by_cases hji : j = i
    · subst hji; exact hy.wpOp hi ⟨fun h => (by rw [hli] at h; cases h), fun _ => ⟨hS, H⟩⟩
    · have hun := (mem_ready.1 hr).1
      obtain ⟨hjun, oj, hoj, hall⟩ := mem_ready.1 hj
      have hnot : ∀ e ∈ oj.after, Region.binds md e = true → e.on ≠ i := fun e he hb heq => by
        have h1 := hall e he hb
        rw [heq] at h1
        rcases Nat.lt_or_ge i l.size with h' | h'
        · simp [h'] at hun h1; rw [hun] at h1; cases h1
        · simp [Array.getElem?_eq_none h'] at h1
      have hfree' : ∀ k ok, ops[k]? = some ok → k ≠ i → (l.setIfInBounds j true).getD k true = false → (∀ e ∈ ok.after, Region.binds md e = true → e.on ≠ i) → oi.apart ops ok = true := fun k ok hk hki hkun hno => by
        refine hfree k ok hk hki ?_ hno
        by_cases hjk : j = k
        · subst hjk; exact hjun
        · rw [getD_set_ne true hjk] at hkun; exact hkun
      have hy' : YieldsIf P ops (fun _ => True) oi v a := hy.yieldsIf
      have h2 := wpOp_putIf hoj (hfree j oj hoj hji hjun hnot) (fun cs b => hsel i oi cs b hi) (fun cs b => hsel j oj cs b hoj) hQ hy' (H.2 j (ready_mono hj hji))
      refine wpOp_mono (fun a' w' h3 => ⟨fun hl => ?_, fun hl => ?_⟩) h2
      · have h5 := h3.2.1 hl
        rw [Array.setIfInBounds_comm _ _ (Ne.symm hji)] at h5
        exact wpAny_first hi hsel hQ n (l.setIfInBounds j true) a' w' hfree' (ready_mono hr (Ne.symm hji)) (yields_of_true h3.1) h5
      · obtain ⟨h4, h5⟩ := h3.2.2 hl
        refine ⟨h4, ih (l.setIfInBounds j true) a' w' hfree' (ready_mono hr (Ne.symm hji)) hli (yields_of_true h3.1) h4 ?_⟩
        rw [Array.setIfInBounds_comm _ _ hji]; exact h5
/-! The moves, with closed conditions. -/
theorem wpLate_begin {id : Nat} {a : Act} {w : World} (hm : P.follows .mixedOrders = true)
    (h : wpLate P .any ops Q S late ops.size (Array.replicate ops.size false) a w.drew) : (Code.region id ops true).wp P Q a w :=
  wp_region_any hm (wpLate.any _ _ _ _ h)
theorem wpLate_takeP {i : Nat} {oi : Oper} {v : Value} {n : Nat} {l : Array Bool} {a : Act} {w : World} (hi : ops[i]? = some oi)
    (hs : Region.noSelect ops = true) (hf : Region.free md ops l i = true) (hr : (Region.ready md ops l).contains i = true) (hli : late i = false)
    (hQ : ∀ c a w, Q (.panic c) (a.put oi.dst v) w → Q (.panic c) a w) (hy : Yields P ops oi v a) (hS : S w)
    (h : wpLate P md ops Q S late n (l.setIfInBounds i true) (a.put oi.dst v) w) : wpLate P md ops Q S late (n + 1) l a w :=
  wpLate_pure hi (Region.noSelect_spec hs) hQ n l a w (Region.free_spec hi hf) (by simpa using hr) hli hy hS h
theorem wpLate_takeL {i : Nat} {oi : Oper} {v : Value} {n : Nat} {l : Array Bool} {a : Act} {w : World} (hi : ops[i]? = some oi)
    (hs : Region.noSelect ops = true) (hf : Region.free md ops l i = true) (hr : (Region.ready md ops l).contains i = true) (hli : late i = false)
    (hlate : ∀ l, Waits md ops l → ∀ j ∈ Region.ready md ops l, late j = true → l.getD i false = true) (hW : Waits md ops l)
    (hQ : ∀ c a w, Q (.panic c) (a.put oi.dst v) w → Q (.panic c) a w) (hy : YieldsIf P ops S oi v a) (hS : S w)
    (h : wpLate P md ops Q S late n (l.setIfInBounds i true) (a.put oi.dst v) w) : wpLate P md ops Q S late (n + 1) l a w :=
  wpLate_load hi (Region.noSelect_spec hs) hQ hlate n l a w (Region.free_spec hi hf) hW (by simpa using hr) hli hy hS h
theorem wpLate_done {l : Array Bool} {a : Act} {w : World} (hr : Region.ready md ops l = []) (h : Q .normal a w) : ∀ n, wpLate P md ops Q S late n l a w
  | 0 => ⟨hr, h⟩
  | _ + 1 => ⟨fun _ => h, by rw [hr]; simp⟩
/-- Each of those that may come up. -/
def AllLate (P : Program) (md : Region.Mode) (ops : Array Oper) (Q : Exit → Act → World → Prop) (S : World → Prop) (late : Nat → Bool) (n : Nat) (l : Array Bool) (a : Act) (w : World) (rs : List Nat) : Prop :=
  ∀ j ∈ rs, wpOp P ops Q j (fun a' w' => (late j = true → wpAny P md ops Q n (l.setIfInBounds j true) a' w') ∧ (late j = false → S w' ∧ wpLate P md ops Q S late n (l.setIfInBounds j true) a' w')) a w
theorem wpLate_ready {rs : List Nat} {n : Nat} {l : Array Bool} {a : Act} {w : World} (hr : Region.ready md ops l = rs) (hne : rs ≠ []) (h : AllLate P md ops Q S late n l a w rs) : wpLate P md ops Q S late (n + 1) l a w :=
  ⟨fun h0 => absurd (hr ▸ h0) hne, hr ▸ h⟩
theorem AllLate.nil {n : Nat} {l : Array Bool} {a : Act} {w : World} : AllLate P md ops Q S late n l a w [] := fun _ h => by cases h
theorem AllLate.cons {n : Nat} {l : Array Bool} {a : Act} {w : World} {i : Nat} {o : Oper} {rs : List Nat} (ho : ops[i]? = some o) (hli : late i = false)
    (h : ∀ K' : Act → World → Prop, Shut (∀ a w, S w → wpLate P md ops Q S late n (l.setIfInBounds i true) a w → K' a w) → if Region.wanted o (yielded ops a.tmps) = true then Oper.wp P o a w K' Q else K' (a.put o.dst undef) w)
    (hs : AllLate P md ops Q S late n l a w rs) : AllLate P md ops Q S late n l a w (i :: rs) := fun j hj => by
  rcases List.mem_cons.1 hj with rfl | hj
  · exact wpOp_step ho (fun K' hK => h K' (fun a w hS hW => hK a w ⟨fun q => (by rw [hli] at q; cases q), fun _ => ⟨hS, hW⟩⟩))
  · exact hs j hj
/-- The one that may come up is late. -/
theorem AllLate.last {n : Nat} {l : Array Bool} {a : Act} {w : World} {i : Nat} {o : Oper} (ho : ops[i]? = some o) (hli : late i = true)
    (h : ∀ K' : Act → World → Prop, Shut (∀ a w, wpAny P md ops Q n (l.setIfInBounds i true) a w → K' a w) → if Region.wanted o (yielded ops a.tmps) = true then Oper.wp P o a w K' Q else K' (a.put o.dst undef) w) : AllLate P md ops Q S late n l a w [i] := fun j hj => by
  obtain rfl : j = i := by simpa using hj
  exact wpOp_step ho (fun K' hK => h K' (fun a w hW => hK a w ⟨fun _ => hW, fun q => (by rw [hli] at q; cases q)⟩))
theorem wpAny_one {n : Nat} {l : Array Bool} {a : Act} {w : World} {i : Nat} {o : Oper} (hr : Region.ready md ops l = [i]) (ho : ops[i]? = some o)
    (h : ∀ K' : Act → World → Prop, Shut (∀ a w, wpAny P md ops Q n (l.setIfInBounds i true) a w → K' a w) → if Region.wanted o (yielded ops a.tmps) = true then Oper.wp P o a w K' Q else K' (a.put o.dst undef) w) : wpAny P md ops Q (n + 1) l a w := by
  refine ⟨fun h0 => (by rw [hr] at h0; cases h0), fun j hj => ?_⟩
  rw [hr] at hj
  obtain rfl : j = i := by simpa using hj
  exact wpOp_step ho (fun K' hK => h K' hK)
theorem wpAny_end {l : Array Bool} {a : Act} {w : World} (hr : Region.ready md ops l = []) (h : Q .normal a w) : ∀ n, wpAny P md ops Q n l a w
  | 0 => ⟨hr, h⟩
  | _ + 1 => ⟨fun _ => h, by rw [hr]; simp⟩
end
end Go.Proofs.Ytpjgpiiibgogeaa


/- Own lists of one-cell values that begin anywhere in their block: appends, stores, pieces. -/
namespace Go.Proofs.Ytpjgpiiibgogeaa
open Go.RowKit
set_option maxRecDepth 100000
set_option linter.unusedVariables false

theorem add_litV (g o k : Nat) : (⟨g, o, none⟩ : Addr).add k = ⟨g, o + k, none⟩ := by unfold Addr.add; split <;> simp_all
/-- The block of a list. -/
def bkV : Option Addr → List Nat
  | none => []
  | some a => [a.block]
structure OwnV (w : World) (B : Nat) (A : Option Addr) (n c : Nat) (vs : List Value) : Prop where
  len : vs.length = n
  le : n ≤ c
  cap : c ≤ maxLen
  none_ : A = none → n = 0 ∧ c = 0
  at_ : ∀ a, A = some a → a = ⟨a.block, a.off, none⟩ ∧ B ≤ a.block ∧ a.block < w.heap.size ∧
    (∀ j, j < c → (w.cell? ⟨a.block, a.off + j, none⟩).isSome = true ∧ w.frozen? ⟨a.block, a.off + j, none⟩ = false) ∧ ∀ j v, vs[j]? = some v → w.cell? ⟨a.block, a.off + j, none⟩ = some v
theorem Off.setCells {S : List Nat} {w w' : World} (h : Off S w w') {b : Nat} (hb : b ∈ S) : ∀ (vs : List Value) (o : Nat), Off S w (w'.setCells b o vs) := by
  intro vs
  induction vs generalizing w' with
  | nil => intro o; exact h
  | cons v vs ih => intro o; exact ih (h.setCell (p := ⟨b, o, none⟩) hb v) (o + 1)
section
variable {w w' : World} {B B' n c : Nat} {A : Option Addr} {vs : List Value} {S : List Nat}
theorem OwnV.nil (w : World) (B : Nat) : OwnV w B none 0 0 [] := ⟨rfl, Nat.le_refl _, by unfold maxLen; omega, fun _ => ⟨rfl, rfl⟩, fun a h => by cases h⟩
theorem OwnV.off (h : OwnV w B A n c vs) (hf : Off S w w') (hS : ∀ y ∈ bkV A, y ∉ S) : OwnV w' B A n c vs := by
  refine ⟨h.len, h.le, h.cap, h.none_, fun a ha => ?_⟩
  obtain ⟨h1, h2, h3, h4, h5⟩ := h.at_ a ha
  have hn : a.block ∉ S := hS _ (by rw [ha]; simp [bkV])
  refine ⟨h1, h2, Nat.lt_of_lt_of_le h3 hf.size, fun j hj => ?_, fun j v hj => ?_⟩
  · rw [hf.cell (p := ⟨a.block, a.off + j, none⟩) h3 hn, hf.frozen (p := ⟨a.block, a.off + j, none⟩) h3 hn]; exact h4 j hj
  · rw [hf.cell (p := ⟨a.block, a.off + j, none⟩) h3 hn]; exact h5 j v hj
theorem OwnV.below (h : OwnV w B A n c vs) (hb : Below w.heap.size w w') : OwnV w' B A n c vs := h.off (S := []) (Off.of_below hb) (by simp)
theorem OwnV.mono (h : OwnV w B A n c vs) (hB : B' ≤ B) : OwnV w B' A n c vs :=
  ⟨h.len, h.le, h.cap, h.none_, fun a ha => by obtain ⟨h1, h2, h3⟩ := h.at_ a ha; exact ⟨h1, by omega, h3⟩⟩
theorem OwnV.lt (h : OwnV w B A n c vs) : ∀ y ∈ bkV A, B ≤ y ∧ y < w.heap.size := by
  intro y hy
  cases hA : A with
  | none => rw [hA] at hy; simp [bkV] at hy
  | some a =>
    rw [hA] at hy
    simp only [bkV, List.mem_cons, List.not_mem_nil, or_false] at hy
    subst hy
    have := h.at_ a hA
    exact ⟨this.2.1, this.2.2.1⟩
theorem OwnV.cell (h : OwnV w B A n c vs) (hn : 0 < n) : ∃ b off, A = some ⟨b, off, none⟩ ∧ B ≤ b ∧ b < w.heap.size ∧ (∀ j v, vs[j]? = some v → w.cell? ⟨b, off + j, none⟩ = some v) ∧ ∀ j, j < n → w.frozen? ⟨b, off + j, none⟩ = false := by
  cases hA : A with
  | none => have := h.none_ hA; omega
  | some a =>
    obtain ⟨h1, h2, h3, h4, h5⟩ := h.at_ a hA
    exact ⟨a.block, a.off, by rw [h1], h2, h3, h5, fun j hj => (h4 j (by have := h.le; omega)).2⟩
/-- The first m of them. -/
theorem OwnV.to_ (h : OwnV w B A n c vs) {m : Nat} (hm : m ≤ n) : OwnV w B A m c (vs.take m) := by
  refine ⟨by rw [List.length_take, h.len]; omega, by have := h.le; omega, h.cap, fun e => ⟨by have := (h.none_ e).1; omega, (h.none_ e).2⟩, fun a ha => ?_⟩
  obtain ⟨h1, h2, h3, h4, h5⟩ := h.at_ a ha
  refine ⟨h1, h2, h3, h4, fun j v hj => h5 j v ?_⟩
  rw [List.getElem?_take] at hj
  split at hj
  · exact hj
  · cases hj
/-- A store. -/
theorem OwnV.set {b off : Nat} (h : OwnV w B (some ⟨b, off, none⟩) n c vs) (j : Nat) (v : Value) (hj : j < n) : OwnV (w.setCell ⟨b, off + j, none⟩ v) B (some ⟨b, off, none⟩) n c (vs.set j v) := by
  refine ⟨by simpa using h.len, h.le, h.cap, (fun e => by cases e), fun a ha => ?_⟩
  injection ha with ha
  subst ha
  obtain ⟨h1, h2, h3, h4, h5⟩ := h.at_ _ rfl
  have hl := h.le
  have hln := h.len
  obtain ⟨u, hu⟩ := Option.isSome_iff_exists.1 (h4 j (by omega)).1
  refine ⟨rfl, h2, by simpa using h3, fun i hi => ⟨?_, by simpa using (h4 i hi).2⟩, fun i x hx => ?_⟩
  · by_cases e : i = j
    · subst e; rw [World.cell?_setCell_same _ _ _ hu]; rfl
    · rw [World.cell?_setCell_other _ _ _ _ (by simp <;> omega)]; exact (h4 i hi).1
  · by_cases e : i = j
    · subst e
      rw [World.cell?_setCell_same _ _ _ hu]
      rw [List.getElem?_set_self (by omega)] at hx
      exact hx
    · rw [List.getElem?_set_ne (Ne.symm e)] at hx
      rw [World.cell?_setCell_other _ _ _ _ (by simp <;> omega)]; exact h5 i x hx
/-- An append of some. -/
theorem append_v {P : Program} {Ts T : TypeId} {i0 : TypeInfo} {z : Value} {bts : Nat} (hu : P.underlying Ts = some (.slice T)) (hi : P.info? T = some i0) (hz0 : i0.zero = some z) (hz1 : i0.size = 1) (hz2 : i0.bytes = bts) (hzc : z.cells.size = 1)
    (hown : OwnV w B A n c vs) (p m cm : Nat) (ts : List Value) (hm : ts.length = m) (hp : BlkL w p ts) (h1 : ∀ u ∈ ts, u.oneCell' = true) (hm0 : 0 < m) (hb : 1 ≤ bts) (hn : (n + m) * bts ≤ 140737488355328) (hB : B ≤ w.heap.size) :
    ∃ A' c' w', (∀ ty, (Builtin.append_ #[Ts, Ts] ty #[.slice A n c, .slice (some ⟨p, 0, none⟩) m cm]).run P w = .ok (.slice A' (n + m) c') w') ∧ OwnV w' B A' (n + m) c' (vs ++ ts) ∧ Off (bkV A) w w' ∧ (∀ y ∈ bkV A', y ∈ bkV A ∨ y = w.heap.size ∧ y < w'.heap.size) := by
  have hcp := hown.cap
  have hle := hown.le
  have hzl := hown.len
  unfold maxLen at hcp
  have hnm : n + m ≤ 140737488355328 := Nat.le_trans (Nat.le_mul_of_pos_right _ hb) hn
  have hnews : ∀ j u, ts[j]? = some u → w.cell? ((⟨p, 0, none⟩ : Addr).add j) = some u := fun j u hu => by
    rw [add_litV]; rw [Nat.zero_add]; exact hp.cell j u hu
  have hl : ts.length = m * i0.size := by rw [hz1, hm]; omega
  have grown : ∀ (old : Nat), n + m ≤ grownCap w (n + m) old T ∧ grownCap w (n + m) old T ≤ maxLen ∧
      OwnV (w.drew.alloc (.cells (vs.toArray ++ ts.toArray ++ Builtin.zeroCells z.cells (grownCap w (n + m) old T - (n + m))) T)) B (some ⟨w.heap.size, 0, none⟩) (n + m) (grownCap w (n + m) old T) (vs ++ ts) := by
    intro old
    have g1 := grownCap_ge w (n + m) old T
    have g2 := grownCap_le_maxLen w (n + m) old T (by unfold maxLen; omega)
    refine ⟨g1, g2, ⟨by simp [hzl, hm], g1, g2, fun e => by simp at e, fun b hb => ?_⟩⟩
    injection hb with hb
    subst hb
    have hblk : (w.drew.alloc (.cells (vs.toArray ++ ts.toArray ++ Builtin.zeroCells z.cells (grownCap w (n + m) old T - (n + m))) T)).heap[w.heap.size]? = _ := heap_alloc_new w.drew _
    refine ⟨rfl, hB, by simp, fun j hj => ⟨?_, frozen_of_row _ _ _ _ _ hblk⟩, fun j v hj => ?_⟩
    · show (World.cell? _ ⟨w.heap.size, 0 + j, none⟩).isSome = true
      rw [Nat.zero_add, cell_of_row _ _ _ _ _ (0, 0) hblk]
      rw [Array.getElem?_eq_getElem (by simp [size_zeroCells, hzl, hm, hzc]; omega)]
      rfl
    · show World.cell? _ ⟨w.heap.size, 0 + j, none⟩ = _
      rw [Nat.zero_add, cell_of_row _ _ _ _ _ (0, 0) hblk, ← Array.getElem?_toList]
      simp only [Array.toList_append]
      have hjl : j < (vs ++ ts).length := (List.getElem?_eq_some_iff.1 hj).1
      rw [List.getElem?_append_left (by simpa using hjl)]
      exact hj
  cases A with
  | none =>
    obtain ⟨rfl, rfl⟩ := hown.none_ rfl
    obtain rfl : vs = [] := List.eq_nil_of_length_eq_zero hzl
    obtain ⟨g1, g2, g3⟩ := grown 0
    simp only [Nat.zero_add] at g1 g2 g3 hn hnm
    refine ⟨_, _, _, fun ty => by simpa using run_append_nil (P := P) w Ts ty T i0 z hu hi hz0 ⟨p, 0, none⟩ m cm _ hl hnews (by omega) (by omega) (by rw [hz2]; omega), ?_, ?_, ?_⟩
    · simpa using g3
    · exact ⟨rfl, rfl, rfl, by simp, fun k hk _ => heap_alloc_old w.drew _ hk⟩
    · intro y hy; simp [bkV] at hy; exact .inr ⟨hy, by rw [hy]; simp⟩
  | some b =>
    obtain ⟨b1, b2, b3, b4, b5⟩ := hown.at_ b rfl
    obtain ⟨bb, bo, bs⟩ := b
    simp only [Addr.mk.injEq, true_and] at b1
    subst b1
    simp only at b2 b3 b4 b5
    by_cases hroom : n + m ≤ c
    · refine ⟨some ⟨bb, bo, none⟩, c, w.setCells bb (bo + n) ts, fun ty => ?_, ?_, ?_, ?_⟩
      · have hf := run_firstCells_some (P := P) w i0.size m ⟨p, 0, none⟩ m cm _ hl hnews
        have hst := run_storeCells_cells (P := P) bb (bo + n) ts 0 w (fun j hj => by
          have := (b4 (n + j) (by omega)).1
          rwa [show bo + n + 0 + j = bo + (n + j) by omega]) (fun j hj => by
          have := (b4 (n + j) (by omega)).2
          rwa [show bo + n + 0 + j = bo + (n + j) by omega]) h1
        have ea : (⟨bb, bo, none⟩ : Addr).add (n * i0.size) = ⟨bb, bo + n, none⟩ := by rw [hz1, Nat.mul_one, add_litV]
        simp [Builtin.append_, run_underlying hu, sizeOf, typeInfo, hi, Builtin.lenOf, hroom, hf, ea, hst]
      · refine ⟨by simp [hzl, hm], hroom, hown.cap, fun e => by simp at e, fun b hb => ?_⟩
        injection hb with hb
        subst hb
        refine ⟨rfl, b2, ?_, fun j hj => ?_, fun j v hj => ?_⟩
        · exact Nat.lt_of_lt_of_le b3 ((Off.refl [bb] w).setCells (by simp) ts (bo + n)).size
        · show (World.cell? _ ⟨bb, bo + j, none⟩).isSome = true ∧ World.frozen? _ ⟨bb, bo + j, none⟩ = false
          refine ⟨?_, by rw [World.frozen?_setCells]; exact (b4 j hj).2⟩
          rcases Nat.lt_or_ge j n with h | h
          · rw [World.cell?_setCells_out _ _ _ _ _ (fun _ _ => .inl (by simp; omega))]; exact (b4 j hj).1
          · rcases Nat.lt_or_ge j (n + m) with h' | h'
            · have := World.cell?_setCells_in bb ts (bo + n) w (fun k hk => by
                have := (b4 (n + k) (by omega)).1
                rwa [show bo + n + k = bo + (n + k) by omega]) (j - n) (by omega)
              rw [show bo + n + (j - n) = bo + j by omega] at this
              rw [this]; rfl
            · rw [World.cell?_setCells_out _ _ _ _ _ (fun _ _ => .inr (by simp; omega))]; exact (b4 j hj).1
        · show World.cell? _ ⟨bb, bo + j, none⟩ = _
          have hjl : j < (vs ++ ts).length := (List.getElem?_eq_some_iff.1 hj).1
          rw [List.length_append, hzl, hm] at hjl
          rcases Nat.lt_or_ge j n with h | h
          · rw [World.cell?_setCells_out _ _ _ _ _ (fun _ _ => .inl (by simp; omega))]
            rw [List.getElem?_append_left (by omega)] at hj
            exact b5 j v hj
          · have := World.cell?_setCells_in bb ts (bo + n) w (fun k hk => by
              have := (b4 (n + k) (by omega)).1
              rwa [show bo + n + k = bo + (n + k) by omega]) (j - n) (by omega)
            rw [show bo + n + (j - n) = bo + j by omega] at this
            rw [this]
            rw [List.getElem?_append_right (by omega), hzl, List.getElem?_eq_getElem (by omega)] at hj
            exact hj
      · exact (Off.refl _ _).setCells (by simp [bkV]) _ _
      · intro y hy; exact .inl hy
    · obtain ⟨g1, g2, g3⟩ := grown c
      have hold : ∀ j v, vs[j]? = some v → w.cell? ((⟨bb, bo, none⟩ : Addr).add j) = some v := fun j v hv => by
        rw [add_litV]; exact b5 j v hv
      refine ⟨_, _, _, fun ty => run_append_grow (P := P) w Ts ty T i0 z hu hi hz0 ⟨bb, bo, none⟩ n c vs (by rw [hz1, hzl]; omega) hold ⟨p, 0, none⟩ m cm _ hl hnews (by omega) (by omega) (growslice_fits (by omega) (by rw [hz2]; exact hn)), g3, ⟨rfl, rfl, rfl, by simp, fun k hk _ => heap_alloc_old w.drew _ hk⟩, ?_⟩
      intro y hy; simp [bkV] at hy; exact .inr ⟨hy, by rw [hy]; simp⟩
theorem wpList_append_v {P : Program} {ops : Array Oper} {rest : List Oper} {o : Oper} {a : Act} {Q : Exit → Act → World → Prop} {Ts T : TypeId} {i0 : TypeInfo} {z : Value} {bts : Nat}
    (hu : P.underlying Ts = some (.slice T)) (hi : P.info? T = some i0) (hz0 : i0.zero = some z) (hz1 : i0.size = 1) (hz2 : i0.bytes = bts) (hzc : z.cells.size = 1) (hgd : o.guard = none) (s x : Operand)
    (ho : o.op = .call { callee := .builtin .append, args := #[s, x], argTypes := #[Ts, Ts] })
    (hs : a.eval s = .slice A n c) (hown : OwnV w B A n c vs) (p m cm : Nat) (ts : List Value) (hx : a.eval x = .slice (some ⟨p, 0, none⟩) m cm) (hm : ts.length = m) (hp : BlkL w p ts) (h1 : ∀ u ∈ ts, u.oneCell' = true) (hm0 : 0 < m) (hb : 1 ≤ bts) (hn : (n + m) * bts ≤ 140737488355328) (hB : B ≤ w.heap.size)
    (h : ∀ A' c' w', OwnV w' B A' (n + m) c' (vs ++ ts) → Off (bkV A) w w' → (∀ y ∈ bkV A', y ∈ bkV A ∨ y = w.heap.size ∧ y < w'.heap.size) → wpList P ops Q rest (a.put o.dst (.slice A' (n + m) c')) w') : wpList P ops Q (o :: rest) a w := by
  refine wpList_plain hgd fun K hK => ?_
  obtain ⟨A', c', w', hr, k1, k2, k3⟩ := append_v hu hi hz0 hz1 hz2 hzc hown p m cm ts hm hp h1 hm0 hb hn hB
  have hr' := hr o.type
  unfold Oper.wp execOp
  simp only [ho, resolve, invoke, builtin, Sem.run_bind, Sem.run_pure, Result.andThen_ok, List.map_toArray, List.map_cons, List.map_nil, hs, hx, hr']
  exact hK _ _ (h A' c' w' k1 k2 k3)
end
end Go.Proofs.Ytpjgpiiibgogeaa


/- The law EpochSafe: its state in memory. -/
namespace Go.Proofs.Ytpjgpiiibgogeaa
open Go.RowKit
set_option maxRecDepth 100000
set_option linter.unusedVariables false

structure MnS (w wr : World) (x T k : Nat) (X : List Nat) (s : EpV) (v : WaV) (ow : List Nat) (gA tA oA : Option Addr) (gc tc oc : Nat) : Prop where
  h : SfS w wr x T k X s v gA tA gc tc
  o : OwnO wr w.heap.size oA ow.length oc (ow.map Int.ofNat)
  ap : ApZ (thX oA) X T gA tA
  sf : SafeI s v ow
section
variable {w wr w' : World} {x T k k' : Nat} {X : List Nat} {s s' : EpV} {v v' : WaV} {ow : List Nat} {gA tA oA : Option Addr} {gc tc oc i : Nat}
theorem MnS.below (h : MnS w wr x T k X s v ow gA tA oA gc tc oc) (hb : Below wr.heap.size wr w') : MnS w w' x T k X s v ow gA tA oA gc tc oc := ⟨h.h.below hb, h.o.below hb, h.ap, h.sf⟩
/-- How a step of the watch ends. -/
def MsE (w : World) (x T k : Nat) (X : List Nat) (s : EpV) (v : WaV) (ow : List Nat) (gA tA oA : Option Addr) (gc tc oc i : Nat) (e : Ending) (w' : World) : Prop :=
  e = .returned (.bool true) ∧ ∃ k' s' v', MnS w w' x T k' X s' v' ow gA tA oA gc tc oc ∧ k' ≤ k + 1 ∧ v'.gv.length = v.gv.length ∧ v'.tm ≤ v.tm + 1 ∧ ((s' = s ∧ isEN (s.wk i).nx = false) ∨ (s' = stS s i ∧ isEN (s.wk i).nx = true))
theorem mstep (h : MnS w wr x T k X s v ow gA tA oA gc tc oc) (hk : k < 1000000) (hi : i < 4) (ht : v.tm ≤ 1000000) (hl : v.gv.length ≤ 1000) :
    Calls Try.prog 30 #[PV T, PV x, IV i] wr (MsE w x T k X s v ow gA tA oA gc tc oc i) := by
  rcases hp : isEN (s.wk i).nx with _ | _
  · refine (wstep_no (Z := thX oA) h.h hi hp).mono ?_
    rintro e w' ⟨rfl, h2, f2⟩
    exact ⟨rfl, k, s, v, ⟨h2, h.o.frx f2 (fun y hy => hy), h.ap, h.sf⟩, by omega, rfl, by omega, .inl ⟨rfl, hp⟩⟩
  · refine (wstep_yes (Z := thX oA) h.h h.ap h.sf hk hi hp ht hl).mono ?_
    rintro e w' ⟨rfl, h2, f2⟩
    have hst := (h.sf.step h.h.c.inv hi hp).1
    have hpf := post_facts v i (stepE 4 s i).q
    exact ⟨rfl, k + 1, stS s i, _, ⟨h2, h.o.frx f2 (fun y hy => hy), h.ap, hst⟩, by omega, hpf.1, by omega, .inr ⟨rfl, hp⟩⟩
theorem MnS.start (h : MnS w wr x T k X s v ow gA tA oA gc tc oc) (hn : NoRet s) (hi : i < 4) {op : Nat} (h1 : 1 ≤ op) (h5 : op ≤ 5) (h3 : op ≠ 3) (hc : checkE (s.wk i) op = 0) (t : Int)
    (h' : SfS w w' x T k X (s.nx i (firstE op t)) { v with ops := updF v.ops i op, bg := updF v.bg i 0 } gA tA gc tc) (hf : FrX w.heap.size (thX oA) wr w') :
    MnS w w' x T k X (s.nx i (firstE op t)) { v with ops := updF v.ops i op, bg := updF v.bg i 0 } ow gA tA oA gc tc oc :=
  ⟨h', h.o.frx hf (fun y hy => hy), h.ap, (h.sf.start hn hi h1 h5 h3 hc t).1⟩
end
def wa0 : WaV := ⟨fun _ => 0, fun _ => 0, fun _ => 0, [], [], 0⟩
theorem safe0 : SafeI (initE 4) wa0 [] ∧ NoRet (initE 4) := by
  have e : ∀ j, (initE 4).wk j = noWk := fun j => rfl
  refine ⟨⟨rfl, rfl, fun j hj hp => ?_, fun j hj hp => ?_, fun j t hj hp => ?_, fun j hj hp => ?_, fun j hj => Int.le_refl _, fun a ha g hg => ?_, fun a ha => ?_, fun a j ha hj g hg => ?_, fun n => ?_, fun n hn2 ht => ?_, Int.le_refl _⟩, fun j t hj hp => ?_⟩
  · rw [e] at hp; cases hp
  · rw [e] at hp; cases hp
  · rw [e] at hp; cases hp
  · exact absurd hp (by show ¬ (0 : Int) < 0; omega)
  · rw [e] at hg; cases hg
  · rw [e]; exact List.nodup_nil
  · rw [e] at hg; cases hg
  · show ([] : List Int).getD n 0 ≤ 0; simp
  · exact absurd hn2 (by show ¬ n < 0; omega)
  · rw [e] at hp; cases hp
def EsI (w : World) (x T n : Nat) (ov iv : Value) (wr : World) : Prop :=
  ∃ (i k : Nat) (X : List Nat) (s : EpV) (v : WaV) (ow : List Nat) (gA tA oA : Option Addr) (gc tc oc : Nat), i ≤ n ∧ i ≤ 400 ∧ iv = .int .i64 (i : Int) ∧ ov = .slice oA ow.length oc ∧ MnS w wr x T k X s v ow gA tA oA gc tc oc ∧ NoRet s ∧ k ≤ i ∧ v.tm ≤ i ∧ v.gv.length ≤ i
theorem NoRet.of {s s' : EpV} {i : Nat} (h : NoRet s) (e : (s' = s ∧ isEN (s.wk i).nx = false) ∨ (s' = stS s i ∧ isEN (s.wk i).nx = true)) : NoRet s' := by
  rcases e with ⟨rfl, _⟩ | ⟨rfl, _⟩
  · exact h
  · exact NoRet.step (fun j t hj _ => h j t hj)
end Go.Proofs.Ytpjgpiiibgogeaa


/- EpochSafe: three lists that grow in one statement. -/
namespace Go.Proofs.Ytpjgpiiibgogeaa
open Go.RowKit
set_option maxRecDepth 100000
set_option linter.unusedVariables false

abbrev iv64 (z : Int) : Value := .int .i64 z
theorem OwnO.v {w : World} {B n c : Nat} {A : Option Addr} {zs : List Int} (h : OwnO w B A n c zs) : OwnV w B A n c (zs.map iv64) := by
  refine ⟨by simpa using h.len, h.le, h.cap, h.none_, fun a ha => ?_⟩
  obtain ⟨h1, h2, h3, h4, h5⟩ := h.at_ a ha
  refine ⟨h1, h2, h3, h4, fun j v hj => ?_⟩
  rw [List.getElem?_map] at hj
  rcases hz : zs[j]? with _ | z
  · rw [hz] at hj; cases hj
  · rw [hz] at hj
    have hl : j < zs.length := (List.getElem?_eq_some_iff.1 hz).1
    rw [h5 j (by rw [← h.len]; exact hl), List.getD_eq_getElem?_getD, hz]
    exact hj
theorem OwnV.o {w : World} {B n c : Nat} {A : Option Addr} {zs : List Int} (h : OwnV w B A n c (zs.map iv64)) : OwnO w B A n c zs := by
  refine ⟨by simpa using h.len, h.le, h.cap, h.none_, fun a ha => ?_⟩
  obtain ⟨h1, h2, h3, h4, h5⟩ := h.at_ a ha
  have hl := h.len
  rw [List.length_map] at hl
  refine ⟨h1, h2, h3, h4, fun j hj => h5 j _ ?_⟩
  rw [List.getElem?_map, List.getD_eq_getElem?_getD, List.getElem?_eq_getElem (by omega)]; rfl
theorem bk_th (A : Option Addr) : bkV A = thX A := by cases A <;> rfl
structure Md (w W : World) (x T k : Nat) (X : List Nat) (s : EpV) (f : Nat → Value) (A : Nat → Option Addr) (c : Nat → Nat) (z : Nat → List Int) (Bs : List (Nat × Int)) : Prop where
  ep : EpC w W x 4 X k s
  b : BlkF W T 15 f
  r : ∀ j, j < 3 → OwnO W w.heap.size (A j) (z j).length (c j) (z j)
  TX : T ∈ X
  rX : ∀ j, j < 3 → ∀ y ∈ thX (A j), y ∈ X
  dis : ∀ i j, i < 3 → j < 3 → i ≠ j → ∀ y ∈ thX (A i), y ∉ thX (A j)
  hT : ∀ j, j < 3 → T ∉ thX (A j)
  ge : w.heap.size ≤ T
  bl : ∀ p ∈ Bs, BlkL W p.1 [iv64 p.2] ∧ ∀ j, j < 3 → p.1 ∉ thX (A j)
section
variable {w W W' : World} {x T k : Nat} {X : List Nat} {s : EpV} {f : Nat → Value} {A : Nat → Option Addr} {c : Nat → Nat} {z : Nat → List Int} {Bs : List (Nat × Int)}
theorem Md.below (h : Md w W x T k X s f A c z Bs) (hb : Below W.heap.size W W') : Md w W' x T k X s f A c z Bs :=
  ⟨h.ep.below hb, h.b.off (Off.of_below (S := []) hb) (by simp), fun j hj => (h.r j hj).below hb, h.TX, h.rX, h.dis, h.hT, h.ge, fun p hp => ⟨(h.bl p hp).1.below hb, (h.bl p hp).2⟩⟩
theorem Md.alloc1 (h : Md w W x T k X s f A c z Bs) (y : Int) (t : TypeId) : Md w (W.alloc (.cells #[iv64 y] t)) x T k X s f A c z ((W.heap.size, y) :: Bs) := by
  have hb := (Below.refl W.heap.size W).alloc (Nat.le_refl _) (.cells #[iv64 y] t)
  have h' := h.below hb
  refine ⟨h'.ep, h'.b, h'.r, h'.TX, h'.rX, h'.dis, h'.hT, h'.ge, fun p hp => ?_⟩
  rcases List.mem_cons.1 hp with rfl | hp
  · exact ⟨BlkL.new W [iv64 y] t, fun j hj hm => by have := ((h.r j hj).lt _ hm).2; simp at this⟩
  · exact h'.bl p hp
theorem Md.app (h : Md w W x T k X s f A c z Bs) {i : Nat} (hi : i < 3) {A' : Option Addr} {c' : Nat} {y : Int} (ho : OwnO W' w.heap.size A' ((z i).length + 1) c' (z i ++ [y])) (hf : Off (thX (A i)) W W') (hx : ∀ u ∈ thX A', u ∈ thX (A i) ∨ u = W.heap.size ∧ u < W'.heap.size) :
    Md w W' x T k (thX A' ++ X) s f (updF A i A') (updF c i c') (updF z i (z i ++ [y])) Bs := by
  have hlt : ∀ j, j < 3 → ∀ u ∈ thX (A j), u < W.heap.size := fun j hj u hu => ((h.r j hj).lt u hu).2
  refine ⟨h.ep.reOff hf (fun u hu => ⟨h.rX i hi u hu, ((h.r i hi).lt u hu).1⟩) (fun u hu => ?_), h.b.off hf (h.hT i hi), fun j hj => ?_, by simp [h.TX], fun j hj u hu => ?_, fun a b ha hb hab u hu hm => ?_, fun j hj hm => ?_, h.ge, fun p hp => ⟨(h.bl p hp).1.off hf ((h.bl p hp).2 i hi), fun j hj hm => ?_⟩⟩
  · rcases List.mem_append.1 hu with e | e
    · rcases hx u e with e1 | e1
      · exact .inl (h.rX i hi u e1)
      · exact .inr ⟨by omega, e1.2⟩
    · exact .inl e
  · by_cases e : j = i
    · subst e; rw [updF_same, updF_same, updF_same, List.length_append]; exact ho
    · rw [updF_other _ _ _ _ e, updF_other _ _ _ _ e, updF_other _ _ _ _ e]
      exact (h.r j hj).off hf (fun u hu => h.dis j i hj hi e u hu)
  · by_cases e : j = i
    · subst e; rw [updF_same] at hu; simp [hu]
    · rw [updF_other _ _ _ _ e] at hu; simp [h.rX j hj u hu]
  · by_cases ea : a = i
    · subst ea
      rw [updF_same] at hu
      rw [updF_other _ _ _ _ (Ne.symm hab)] at hm
      rcases hx u hu with e | e
      · exact h.dis a b ha hb hab u e hm
      · have := hlt b hb u hm; omega
    · rw [updF_other _ _ _ _ ea] at hu
      by_cases eb : b = i
      · subst eb
        rw [updF_same] at hm
        rcases hx u hm with e | e
        · exact h.dis a b ha hb hab u hu e
        · have := hlt a ha u hu; omega
      · rw [updF_other _ _ _ _ eb] at hm; exact h.dis a b ha hb hab u hu hm
  · by_cases e : j = i
    · subst e; rw [updF_same] at hm
      rcases hx T hm with e1 | e1
      · exact h.hT j hj e1
      · have := h.b.lt; omega
    · rw [updF_other _ _ _ _ e] at hm; exact h.hT j hj hm
  · by_cases e : j = i
    · subst e; rw [updF_same] at hm
      rcases hx _ hm with e1 | e1
      · exact (h.bl p hp).2 j hj e1
      · have := (h.bl p hp).1.lt; omega
    · rw [updF_other _ _ _ _ e] at hm; exact (h.bl p hp).2 j hj hm
/-- One of the three appends, in a region. -/
theorem Md.step {ops : Array Oper} {o : Oper} {a : Act} {K : Act → World → Prop} {Q : Exit → Act → World → Prop} {E : Prop} (h : Md w W x T k X s f A c z Bs) {i : Nat} (hi : i < 3) (hgd : o.guard = none) (sl xl : Operand)
    (ho : o.op = .call { callee := .builtin .append, args := #[sl, xl], argTypes := #[35, 35] }) (n : Nat) (hn : (z i).length = n) (hs : a.eval sl = .slice (A i) n (c i)) (p cm : Nat) (y : Int) (hx : a.eval xl = .slice (some ⟨p, 0, none⟩) 1 cm) (hp : (p, y) ∈ Bs) (hl : n ≤ 1000)
    (hk : ∀ A' c' W', Md w W' x T k (thX A' ++ X) s f (updF A i A') (updF c i c') (updF z i (z i ++ [y])) Bs → Off (thX (A i)) W W' → (∀ u ∈ thX A', u ∈ thX (A i) ∨ u = W.heap.size ∧ u < W'.heap.size) → K (a.put o.dst (.slice A' (n + 1) c')) W') :
    if Region.wanted o (yielded ops a.tmps) = true then Oper.wp Try.prog o a W K Q else E := by
  subst hn
  obtain ⟨i0, hi0, hz0, hz1, hz2⟩ := info_parts int_info
  have hw : Region.wanted o (yielded ops a.tmps) = true := by unfold Region.wanted; rw [hgd]
  rw [if_pos hw]
  obtain ⟨A', c', W', hr, k1, k2, k3⟩ := append_v Try.underlying35 hi0 hz0 hz1 hz2 rfl (h.r i hi).v p 1 cm [iv64 y] rfl (h.bl _ hp).1 (fun u hu => by simp only [List.mem_cons, List.not_mem_nil, or_false] at hu; subst hu; rfl) (by omega) (by omega) (by omega) h.ep.bel.size
  have hr' := hr o.type
  rw [bk_th] at k2
  have k3' : ∀ u ∈ thX A', u ∈ thX (A i) ∨ u = W.heap.size ∧ u < W'.heap.size := fun u hu => by
    rw [← bk_th] at hu ⊢; exact k3 u hu
  have k1' : OwnO W' w.heap.size A' ((z i).length + 1) c' (z i ++ [y]) := OwnV.o (by rw [List.map_append]; exact k1)
  have hM := h.app hi k1' k2 k3'
  unfold Oper.wp execOp
  simp only [ho, resolve, invoke, builtin, Sem.run_bind, Sem.run_pure, Result.andThen_ok, List.map_toArray, List.map_cons, List.map_nil, hs, hx, hr']
  exact hk A' c' W' hM k2 k3'
/-- Both slices are written down. -/
theorem Md.fin {v : WaV} {ow : List Nat} {q : Nat} {gA tA : Option Addr} {gc tc : Nat} (h : Md w W x T k X s (wtF v gA tA gc tc) A c z Bs) (z0 : z 0 = v.gv ++ [0]) (z1 : z 1 = v.tk ++ [0]) (z2 : z 2 = ow.map Int.ofNat ++ [(q : Int)])
    (hs : SafeI s { v with gv := v.gv ++ [0], tk := v.tk ++ [0] } (ow ++ [q])) :
    MnS w ((W.setCell ⟨T, 12, none⟩ (.slice (A 0) (v.gv.length + 1) (c 0))).setCell ⟨T, 13, none⟩ (.slice (A 1) (v.tk.length + 1) (c 1))) x T k X s { v with gv := v.gv ++ [0], tk := v.tk ++ [0] } (ow ++ [q]) (A 0) (A 1) (A 2) (c 0) (c 1) (c 2) := by
  have p1 := (Off.refl [T] W).setCell (p := ⟨T, 12, none⟩) (by simp) (.slice (A 0) (v.gv.length + 1) (c 0))
  have hp := p1.setCell (p := ⟨T, 13, none⟩) (by simp) (.slice (A 1) (v.tk.length + 1) (c 1))
  have hoff : ∀ j, j < 3 → OwnO ((W.setCell ⟨T, 12, none⟩ (.slice (A 0) (v.gv.length + 1) (c 0))).setCell ⟨T, 13, none⟩ (.slice (A 1) (v.tk.length + 1) (c 1))) w.heap.size (A j) (z j).length (c j) (z j) := fun j hj => (h.r j hj).off hp (fun y hy hm => h.hT j hj (by simp only [List.mem_cons, List.not_mem_nil, or_false] at hm; rwa [hm] at hy))
  have g0 := hoff 0 (by omega)
  have g1 := hoff 1 (by omega)
  have g2 := hoff 2 (by omega)
  rw [z0] at g0; rw [z1] at g1; rw [z2] at g2
  refine ⟨⟨h.ep.putX hp (fun y hy => by simp only [List.mem_cons, List.not_mem_nil, or_false] at hy; subst hy; exact ⟨h.TX, h.ge⟩), ((h.b.set 12 _ (by omega)).set 13 _ (by omega)).congrF (fun j hj => ?_), g0, g1, h.TX, h.rX 0 (by omega), h.rX 1 (by omega), h.dis 0 1 (by omega) (by omega) (by omega), h.hT 0 (by omega), h.hT 1 (by omega), h.ge⟩, ?_, fun y hy => ⟨h.rX 2 (by omega) y hy, fun e => h.hT 2 (by omega) (by rw [← e]; exact hy), h.dis 2 0 (by omega) (by omega) (by omega) y hy, h.dis 2 1 (by omega) (by omega) (by omega) y hy⟩, hs⟩
  · by_cases e : j = 13
    · subst e; rw [updF_same]; unfold wtF; simp
    · rw [updF_other _ _ _ _ e]
      by_cases e2 : j = 12
      · subst e2; rw [updF_same]; unfold wtF; simp
      · rw [updF_other _ _ _ _ e2]
        unfold wtF
        simp only [e, e2, if_false]
  · have e : (ow ++ [q]).map Int.ofNat = ow.map Int.ofNat ++ [(q : Int)] := by rw [List.map_append]; rfl
    rw [e]
    have e2 : (ow ++ [q]).length = (ow.map Int.ofNat ++ [(q : Int)]).length := by simp
    rw [e2]; exact g2
end
section
variable {ops : Array Oper} {md : Region.Mode} {late : Nat → Bool}
theorem Waits.ofB {l : Array Bool} (h : ((List.range ops.size).all fun j => !l.getD j false || ((ops[j]?).map (·.after.all fun e => !Region.binds md e || l.getD e.on false)).getD true) = true) : Waits md ops l := by
  intro j o ho hl e he hb
  have hj : j < ops.size := (Array.getElem?_eq_some_iff.1 ho).1
  have h1 := List.all_eq_true.1 h j (List.mem_range.2 hj)
  rw [hl, ho] at h1
  simp only [Bool.not_true, Bool.false_or, Option.map_some, Option.getD_some, Array.all_eq_true_iff_forall_mem] at h1
  have h2 := h1 e he
  rw [hb] at h2
  simpa using h2
theorem late_ofB {i : Nat} (h : ((List.range ops.size).all fun j => !late j || ((ops[j]?).map (·.after.any fun e => Region.binds md e && e.on == i)).getD false) = true) :
    ∀ l, Waits md ops l → ∀ j ∈ Region.ready md ops l, late j = true → l.getD i false = true := by
  intro l _ j hj hl
  obtain ⟨_, o, ho, hall⟩ := mem_ready.1 hj
  have hjs : j < ops.size := (Array.getElem?_eq_some_iff.1 ho).1
  have h1 := List.all_eq_true.1 h j (List.mem_range.2 hjs)
  rw [hl, ho] at h1
  simp only [Bool.not_true, Bool.false_or, Option.map_some, Option.getD_some] at h1
  obtain ⟨e, he, hb⟩ := Array.any_eq_true'.1 h1
  simp only [Bool.and_eq_true, beq_iff_eq] at hb
  have := hall e he hb.1
  rw [hb.2] at this
  exact this
end
end Go.Proofs.Ytpjgpiiibgogeaa


/- EpochSafe: the region in which a Retire begins: what it starts from and leaves. -/
namespace Go.Proofs.Ytpjgpiiibgogeaa
open Go.RowKit
set_option maxRecDepth 100000
set_option linter.unusedVariables false

def f3 {α : Type} (a b c : α) : Nat → α
  | 0 => a
  | 1 => b
  | _ => c
section
variable {w W : World} {x T k : Nat} {X : List Nat} {s : EpV} {v : WaV} {ow : List Nat} {gA tA oA : Option Addr} {gc tc oc : Nat}
theorem Md.of (h : SfS w W x T k X s v gA tA gc tc) (o : OwnO W w.heap.size oA ow.length oc (ow.map Int.ofNat)) (ap : ApZ (thX oA) X T gA tA) :
    Md w W x T k X s (wtF v gA tA gc tc) (f3 gA tA oA) (f3 gc tc oc) (f3 v.gv v.tk (ow.map Int.ofNat)) [] := by
  have o' : OwnO W w.heap.size oA (ow.map Int.ofNat).length oc (ow.map Int.ofNat) := by rw [List.length_map]; exact o
  refine ⟨h.c, h.b, fun j hj => ?_, h.TX, fun j hj => ?_, fun i j hi hj hij => ?_, fun j hj => ?_, h.ge, fun p hp => by cases hp⟩
  · rcases (by omega : j = 0 ∨ j = 1 ∨ j = 2) with rfl | rfl | rfl
    · exact h.g
    · exact h.t
    · exact o'
  · rcases (by omega : j = 0 ∨ j = 1 ∨ j = 2) with rfl | rfl | rfl
    · exact h.gX
    · exact h.tX
    · exact fun y hy => (ap y hy).1
  · rcases (by omega : i = 0 ∧ j = 1 ∨ i = 1 ∧ j = 0 ∨ i = 0 ∧ j = 2 ∨ i = 2 ∧ j = 0 ∨ i = 1 ∧ j = 2 ∨ i = 2 ∧ j = 1) with ⟨rfl, rfl⟩ | ⟨rfl, rfl⟩ | ⟨rfl, rfl⟩ | ⟨rfl, rfl⟩ | ⟨rfl, rfl⟩ | ⟨rfl, rfl⟩
    · exact h.gt
    · exact fun y hy hm => h.gt y hm hy
    · exact fun y hy hm => (ap y hm).2.2.1 hy
    · exact fun y hy hm => (ap y hy).2.2.1 hm
    · exact fun y hy hm => (ap y hm).2.2.2 hy
    · exact fun y hy hm => (ap y hy).2.2.2 hm
  · rcases (by omega : j = 0 ∨ j = 1 ∨ j = 2) with rfl | rfl | rfl
    · exact h.Tg
    · exact h.Tt
    · exact fun hm => (ap _ hm).2.1 rfl
end
/-- What the statement leaves. -/
def ReE (w : World) (x T k : Nat) (s : EpV) (v : WaV) (ow : List Nat) (ov : Value) (wx : World) : Prop :=
  ∃ (X : List Nat) (gA tA oA : Option Addr) (gc tc oc : Nat), ov = .slice oA (ow.length) oc ∧ MnS w wx x T k X s v ow gA tA oA gc tc oc
theorem Md.leaf {w W : World} {x T k : Nat} {X : List Nat} {s : EpV} {A : Nat → Option Addr} {c : Nat → Nat} {z : Nat → List Int} {Bs : List (Nat × Int)} {v : WaV} {ow : List Nat} {q : Nat} {gA tA : Option Addr} {gc tc : Nat} (h : Md w W x T k X s (wtF v gA tA gc tc) A c z Bs) (z0 : z 0 = v.gv ++ [0]) (z1 : z 1 = v.tk ++ [0]) (z2 : z 2 = ow.map Int.ofNat ++ [(q : Int)])
    (hs : SafeI s { v with gv := v.gv ++ [0], tk := v.tk ++ [0] } (ow ++ [q])) {A0 A1 A2 : Option Addr} {c0 c1 c2 : Nat} (a0 : A 0 = A0) (a1 : A 1 = A1) (a2 : A 2 = A2) (e0 : c 0 = c0) (e1 : c 1 = c1) (e2 : c 2 = c2) :
    ReE w x T k s { v with gv := v.gv ++ [0], tk := v.tk ++ [0] } (ow ++ [q]) (.slice A2 (ow.length + 1) c2) ((W.setCell ⟨T, 12, none⟩ (.slice A0 (v.gv.length + 1) c0)).setCell ⟨T, 13, none⟩ (.slice A1 (v.tk.length + 1) c1)) := by
  subst a0 a1 a2 e0 e1 e2
  exact ⟨X, A 0, A 1, A 2, c 0, c 1, c 2, by rw [List.length_append]; rfl, h.fin z0 z1 z2 hs⟩
end Go.Proofs.Ytpjgpiiibgogeaa


/- EpochSafe: behind its script. -/
namespace Go.Proofs.Ytpjgpiiibgogeaa
open Go.RowKit
set_option maxRecDepth 100000
set_option linter.unusedVariables false

def EsL (w : World) (x T : Nat) (ov : Value) (wr : World) : Prop :=
  ∃ (k : Nat) (X : List Nat) (s : EpV) (v : WaV) (ow : List Nat) (gA tA oA : Option Addr) (gc tc oc : Nat), ov = .slice oA ow.length oc ∧ MnS w wr x T k X s v ow gA tA oA gc tc oc ∧ NoRet s ∧ k ≤ 400 ∧ v.tm ≤ 400 ∧ v.gv.length ≤ 400
/-- The calls of the first j workers are done, none of them is pinned. -/
def DnE (s : EpV) (j : Nat) : Prop := ∀ m, m < j → (s.wk m).nx = .none ∧ (s.wk m).pin = 0
def EsJ (w : World) (x T : Nat) (ow : List Nat) (oA : Option Addr) (oc : Nat) (jv : Value) (wr : World) : Prop :=
  ∃ (j k : Nat) (X : List Nat) (s : EpV) (v : WaV) (gA tA : Option Addr) (gc tc : Nat), j ≤ 4 ∧ jv = .int .i64 (j : Int) ∧ MnS w wr x T k X s v ow gA tA oA gc tc oc ∧ NoRet s ∧ DnE s j ∧ k ≤ 400 + 30 * j ∧ v.tm ≤ 400 + 30 * (j : Int) ∧ v.gv.length ≤ 400
def EsK (w : World) (x T : Nat) (ow : List Nat) (oA : Option Addr) (oc j : Nat) (nv : Value) (wr : World) : Prop :=
  ∃ (n k : Nat) (X : List Nat) (s : EpV) (v : WaV) (gA tA : Option Addr) (gc tc : Nat), nv = .int .i64 (n : Int) ∧ n + remE s j ≤ 7 ∧ MnS w wr x T k X s v ow gA tA oA gc tc oc ∧ NoRet s ∧ DnE s j ∧ k ≤ 400 + 30 * j + n ∧ v.tm ≤ 400 + 30 * (j : Int) + (n : Int) ∧ v.gv.length ≤ 400
section
variable {s : EpV} {j : Nat}
theorem stS_wk' {m : Nat} (h : m ≠ j) : (stS s j).wk m = s.wk m := by unfold stS; rw [EpV.wk_nx' _ _ _ h, stepE_wk h]
theorem DnE.st (h : DnE s j) : DnE (stS s j) j := fun m hm => by rw [stS_wk' (by omega)]; exact h m hm
theorem DnE.st' (h : DnE s j) (y : EN) : DnE (stS (s.nx j y) j) j := fun m hm => by rw [stS_wk' (by omega), EpV.wk_nx' _ _ _ (by omega)]; exact h m hm
theorem DnE.up (h : DnE s j) (hn : (s.wk j).nx = .none) (hp : (s.wk j).pin = 0) : DnE s (j + 1) := fun m hm => by
  by_cases e : m = j
  · subst e; exact ⟨hn, hp⟩
  · exact h m (by omega)
theorem en_none {y : EN} (h : isEN y = false) : y = .none := by cases y <;> first | rfl | cases h
/-- An Unpin, stepped once. -/
theorem DnE.un (h : DnE s j) (hI : InvE 4 (s.nx j .unpin)) (hj : j < 4) : DnE (stS (s.nx j .unpin) j) (j + 1) := by
  have hp : isEN ((s.nx j .unpin).wk j).nx = true := by rw [EpV.wk_nx]; rfl
  obtain ⟨_, h2, h3, _, _⟩ := stepE_op hI hj hp
  have ho : opY ((s.nx j .unpin).wk j).nx = 2 := by rw [EpV.wk_nx]; rfl
  obtain ⟨a1, a2⟩ := h3 ho
  rw [a1] at h2
  have h4 : isEN (stepE 4 (s.nx j .unpin) j).y = false := by simpa using h2.symm
  refine (h.st' .unpin).up ?_ ?_
  · unfold stS; rw [EpV.wk_nx]; exact en_none h4
  · unfold stS; rw [EpV.wk_nx]; exact a2
theorem start2 (hn : (s.wk j).nx = .none) (hp : (s.wk j).pin ≠ 0) : checkE (s.wk j) 2 = 0 := by
  unfold checkE
  rw [hn, if_neg (by simp [isEN]), if_neg (fun q => hp q.2), if_neg (fun q => absurd q.1 (by omega)), if_neg (fun q => absurd q.1 (by omega))]
theorem start45 {op : Nat} (hn : (s.wk j).nx = .none) (h4 : 4 ≤ op) : checkE (s.wk j) op = 0 := by
  unfold checkE
  rw [hn, if_neg (by simp [isEN]), if_neg (fun q => absurd q.1 (by omega)), if_neg (fun q => absurd q.1 (by omega)), if_neg (fun q => absurd q.1 (by omega))]
end
/-- All are done: c workers have collected, d epochs have passed. -/
structure TlS (w wr : World) (x T k : Nat) (X : List Nat) (s : EpV) (v : WaV) (ow : List Nat) (gA tA oA : Option Addr) (gc tc oc c d : Nat) : Prop where
  h : SfS w wr x T k X s v gA tA gc tc
  o : OwnO wr w.heap.size oA ow.length oc (ow.map Int.ofNat)
  oX : ∀ y ∈ thX oA, y ∈ X
  lt : v.tk.length = ow.length
  le : ow.length ≤ 400
  own : ∀ n, n < ow.length → v.tk.getD n 0 = 0 → ow.getD n 9 < 4
  cnt : ∀ a, a < 4 → c ≤ a → leftE v.tk ow a ow.length = (s.wk a).gs.length
  nx : ∀ a, a < 4 → (s.wk a).nx = .none
  pin : ∀ a, a < 4 → (s.wk a).pin = 0
  ep : ∀ a, a < 4 → ∀ g ∈ (s.wk a).gs, g.2 + d ≤ s.E
section
variable {w wr w' : World} {x T k k' : Nat} {X X' : List Nat} {s s' : EpV} {v : WaV} {ow : List Nat} {gA tA oA : Option Addr} {gc tc oc c d : Nat} {q : EqV}
theorem MnS.tl (h : MnS w wr x T k X s v ow gA tA oA gc tc oc) (hn : NoRet s) (hd : DnE s 4) (hl : v.gv.length ≤ 400) : TlS w wr x T k X s v ow gA tA oA gc tc oc 0 0 := by
  have hlo := h.sf.lo
  refine ⟨h.h, h.o, fun y hy => (h.ap y hy).1, h.sf.lt.trans hlo.symm, by omega, fun n hn2 ht => (h.sf.al n (by omega) ht).1, fun a ha _ => ?_, fun a ha => (hd a ha).1, fun a ha => (hd a ha).2, fun a ha g hg => (h.h.c.inv.form a ha).ep g hg⟩
  rw [hlo]; exact h.sf.count hn ha
theorem TlS.below (h : TlS w wr x T k X s v ow gA tA oA gc tc oc c d) (hb : Below wr.heap.size wr w') : TlS w w' x T k X s v ow gA tA oA gc tc oc c d :=
  ⟨h.h.below hb, h.o.below hb, h.oX, h.lt, h.le, h.own, h.cnt, h.nx, h.pin, h.ep⟩
/-- An Advance. -/
theorem TlS.adv (h : TlS w wr x T k X s v ow gA tA oA gc tc oc c d) (hc : EpC w w' x 4 X k' s') (hf : FrX w.heap.size X wr w') (f : FinP 4 0 4 0 s q s') :
    TlS w w' x T k' X s' v ow gA tA oA gc tc oc c (d + 1) ∧ q = ⟨true, 0, ((s.E + 1 : Nat) : Int), []⟩ := by
  have hok : okP s s.E 4 := fun j hj => .inl (by rw [h.h.c.inv.p0 hj (h.nx j hj)]; exact h.pin j hj)
  rcases f.o4 rfl with ⟨_, e1, e2⟩ | ⟨e, _⟩
  · have egs : ∀ a, a < 4 → (s'.wk a).gs = (s.wk a).gs := fun a ha => by
      by_cases e : a = 0
      · subst e; exact f.gs (by omega) (by omega)
      · rw [f.wk a e]
    refine ⟨⟨h.h.call hc hf, h.o.frx hf h.oX, h.oX, h.lt, h.le, h.own, fun a ha hca => by rw [egs a ha]; exact h.cnt a ha hca, fun a ha => ?_, fun a ha => ?_, fun a ha g hg => ?_⟩, e1⟩
    · by_cases e : a = 0
      · subst e; exact f.nx
      · rw [f.wk a e]; exact h.nx a ha
    · by_cases e : a = 0
      · subst e; rw [f.pin (by omega) (by omega)]; exact h.pin _ ha
      · rw [f.wk a e]; exact h.pin a ha
    · rw [egs a ha] at hg
      have := h.ep a ha g hg
      omega
  · exact absurd hok e
/-- A Collect. -/
theorem TlS.col (h : TlS w wr x T k X s v ow gA tA oA gc tc oc c 3) (hc4 : c < 4) (hc : EpC w w' x 4 X k' s') (hf : FrX w.heap.size X wr w') (f : FinP 4 c 5 0 s q s') :
    TlS w w' x T k' X s' v ow gA tA oA gc tc oc (c + 1) 3 ∧ q.e = 0 ∧ q.d = true ∧ q.th.length = leftE v.tk ow c ow.length ∧ (s'.wk c).gs.length = 0 := by
  obtain ⟨e1, e2⟩ := f.o5 rfl
  have hall : oldN s.E (s.wk c).gs = (s.wk c).gs.length := oldN_all (fun g hg => by have := h.ep c hc4 g hg; omega)
  rw [hall] at e1 e2
  rw [List.drop_length] at e2
  have hE := f.E (by omega)
  refine ⟨⟨h.h.call hc hf, h.o.frx hf h.oX, h.oX, h.lt, h.le, h.own, fun a ha hca => ?_, fun a ha => ?_, fun a ha => ?_, fun a ha g hg => ?_⟩, by rw [e1], by rw [e1], ?_, by rw [e2]; rfl⟩
  · rw [f.wk a (by omega)]; exact h.cnt a ha (by omega)
  · by_cases e : a = c
    · subst e; exact f.nx
    · rw [f.wk a e]; exact h.nx a ha
  · by_cases e : a = c
    · subst e; rw [f.pin (by omega) (by omega)]; exact h.pin _ ha
    · rw [f.wk a e]; exact h.pin a ha
  · rw [hE]
    by_cases e : a = c
    · subst e; rw [e2] at hg; cases hg
    · rw [f.wk a e] at hg; exact h.ep a ha g hg
  · rw [e1, h.cnt c hc4 (Nat.le_refl _)]
    simp
/-- Beside the block that counts. -/
structure LfS (w wr : World) (x T L k : Nat) (X : List Nat) (s : EpV) (v : WaV) (ow : List Nat) (gA tA oA : Option Addr) (gc tc oc c d : Nat) (f : Nat → Nat) : Prop where
  t : TlS w wr x T k X s v ow gA tA oA gc tc oc c d
  b : BlkF wr L 4 (fun a => .int .i64 (f a : Nat))
  LX : L ∈ X
  ge : w.heap.size ≤ L
  LT : L ≠ T
  Lg : L ∉ thX gA
  Lt : L ∉ thX tA
  Lo : L ∉ thX oA
theorem TlS.lf (h : TlS w wr x T k X s v ow gA tA oA gc tc oc c d) : LfS w (wr.alloc (.cells (List.replicate 4 (.int .i64 0)).toArray 3)) x T wr.heap.size k (wr.heap.size :: X) s v ow gA tA oA gc tc oc c d (fun _ => 0) := by
  have hb := (Below.refl wr.heap.size wr).alloc (Nat.le_refl _) (.cells (List.replicate 4 (.int .i64 0)).toArray 3)
  have h1 := h.below hb
  have hX := h.h.c.hX
  refine ⟨⟨⟨h.h.c.newX _, h1.h.b, h1.h.g, h1.h.t, List.mem_cons_of_mem _ h1.h.TX, fun y hy => List.mem_cons_of_mem _ (h1.h.gX y hy), fun y hy => List.mem_cons_of_mem _ (h1.h.tX y hy), h1.h.gt, h1.h.Tg, h1.h.Tt, h1.h.ge⟩, h1.o, fun y hy => List.mem_cons_of_mem _ (h1.oX y hy), h1.lt, h1.le, h1.own, h1.cnt, h1.nx, h1.pin, h1.ep⟩,
    blkF_ofL (BlkL.new wr (List.replicate 4 (.int .i64 0)) 3) rfl (fun j hj => ?_), by simp, h.h.c.bel.size, fun e => ?_, fun hm => ?_, fun hm => ?_, fun hm => ?_⟩
  · rcases (by omega : j = 0 ∨ j = 1 ∨ j = 2 ∨ j = 3) with rfl | rfl | rfl | rfl <;> rfl
  · have := hX T h.h.TX; omega
  · have := hX _ (h.h.gX _ hm); omega
  · have := hX _ (h.h.tX _ hm); omega
  · have := hX _ (h.oX _ hm); omega
variable {L : Nat} {f : Nat → Nat}
theorem LfS.below (h : LfS w wr x T L k X s v ow gA tA oA gc tc oc c d f) (hb : Below wr.heap.size wr w') : LfS w w' x T L k X s v ow gA tA oA gc tc oc c d f :=
  ⟨h.t.below hb, h.b.off (Off.of_below (S := []) hb) (by simp), h.LX, h.ge, h.LT, h.Lg, h.Lt, h.Lo⟩
/-- One more. -/
theorem LfS.put (h : LfS w wr x T L k X s v ow gA tA oA gc tc oc c d f) (i u : Nat) (hi : i < 4) : LfS w (wr.setCell ⟨L, i, none⟩ (.int .i64 (u : Nat))) x T L k X s v ow gA tA oA gc tc oc c d (updF f i u) := by
  have hp := (Off.refl [L] wr).setCell (p := ⟨L, i, none⟩) (by simp) (.int .i64 (u : Nat))
  have hm : ∀ y : Nat, y ∈ [L] → y = L := fun y hy => by simpa using hy
  refine ⟨⟨⟨h.t.h.c.putX hp (fun y hy => by rw [hm y hy]; exact ⟨h.LX, h.ge⟩), h.t.h.b.off hp (fun q => h.LT (hm _ q).symm), h.t.h.g.off hp (fun y hy q => h.Lg (by rw [← hm y q]; exact hy)), h.t.h.t.off hp (fun y hy q => h.Lt (by rw [← hm y q]; exact hy)), h.t.h.TX, h.t.h.gX, h.t.h.tX, h.t.h.gt, h.t.h.Tg, h.t.h.Tt, h.t.h.ge⟩, h.t.o.off hp (fun y hy q => h.Lo (by rw [← hm y q]; exact hy)), h.t.oX, h.t.lt, h.t.le, h.t.own, h.t.cnt, h.t.nx, h.t.pin, h.t.ep⟩, (h.b.set i _ hi).congrF (fun j hj => ?_), h.LX, h.ge, h.LT, h.Lg, h.Lt, h.Lo⟩
  by_cases e : j = i
  · subst e; rw [updF_same]; show _ = Value.int .i64 ((updF f j u j : Nat) : Int); rw [updF_same]
  · rw [updF_other _ _ _ _ e]; show _ = Value.int .i64 ((updF f i u j : Nat) : Int); rw [updF_other _ _ _ _ e]
theorem LfS.to (h : LfS w wr x T L k X s v ow gA tA oA gc tc oc c d f) {g : Nat → Nat} (e : ∀ a, a < 4 → f a = g a) : LfS w wr x T L k X s v ow gA tA oA gc tc oc c d g :=
  ⟨h.t, h.b.congrF (fun j hj => by show Value.int .i64 ((f j : Nat) : Int) = Value.int .i64 ((g j : Nat) : Int); rw [e j hj]), h.LX, h.ge, h.LT, h.Lg, h.Lt, h.Lo⟩
theorem LfS.call (h : LfS w wr x T L k X s v ow gA tA oA gc tc oc c d f) {c' d' : Nat} (t : TlS w w' x T k' X s' v ow gA tA oA gc tc oc c' d') (hf : FrX w.heap.size X wr w') : LfS w w' x T L k' X s' v ow gA tA oA gc tc oc c' d' f :=
  ⟨t, hf.blkF h.b h.LX, h.LX, h.ge, h.LT, h.Lg, h.Lt, h.Lo⟩
def lfE (v : WaV) (ow : List Nat) (n : Nat) : Nat → Nat := fun a => leftE v.tk ow a n
theorem lfE0 (v : WaV) (ow : List Nat) : ∀ a, a < 4 → (0 : Nat) = lfE v ow 0 a := fun a _ => rfl
theorem lfE_no {n : Nat} (h : v.tk.getD n 0 ≠ 0) : ∀ a, a < 4 → lfE v ow n a = lfE v ow (n + 1) a := fun a _ => by
  unfold lfE; rw [leftE_succ, if_neg (fun q => h q.1)]; rfl
theorem lfE_yes {n q : Nat} (h : v.tk.getD n 0 = 0) (hq : ow.getD n 9 = q) : ∀ a, a < 4 → updF (lfE v ow n) q (lfE v ow n q + 1) a = lfE v ow (n + 1) a := fun a _ => by
  by_cases e : a = q
  · subst e; rw [updF_same]; unfold lfE; rw [leftE_succ, if_pos ⟨h, hq⟩]
  · rw [updF_other _ _ _ _ e]; unfold lfE; rw [leftE_succ, if_neg (fun z => e (z.2.symm.trans hq))]; rfl
theorem own_cell {n : Nat} (h : OwnO wr w.heap.size oA ow.length oc (ow.map Int.ofNat)) (hn : n < ow.length) : ∃ b o, oA = some ⟨b, o, none⟩ ∧ b < wr.heap.size ∧ wr.cell? ⟨b, o + n, none⟩ = some (.int .i64 ((ow.getD n 9 : Nat) : Int)) := by
  rcases hA : oA with _ | a
  · have := h.none_ hA; omega
  · obtain ⟨h1, h2, h3, h4, h5⟩ := h.at_ a hA
    refine ⟨a.block, a.off, by rw [h1], h3, (h5 n hn).trans ?_⟩
    simp only [List.getD_eq_getElem?_getD, List.getElem?_map, List.getElem?_eq_getElem hn]
    rfl
theorem tk_cell {n : Nat} (h : OwnO wr w.heap.size tA v.tk.length tc v.tk) (hn : n < v.tk.length) : ∃ b o, tA = some ⟨b, o, none⟩ ∧ b < wr.heap.size ∧ wr.cell? ⟨b, o + n, none⟩ = some (.int .i64 (v.tk.getD n 0)) := by
  rcases hA : tA with _ | a
  · have := h.none_ hA; omega
  · obtain ⟨h1, h2, h3, h4, h5⟩ := h.at_ a hA
    exact ⟨a.block, a.off, by rw [h1], h3, h5 n hn⟩
end
def EsA (w : World) (x T : Nat) (ow : List Nat) (oA : Option Addr) (oc : Nat) (cv : Value) (wr : World) : Prop :=
  ∃ (c k : Nat) (X : List Nat) (s : EpV) (v : WaV) (gA tA : Option Addr) (gc tc : Nat), c ≤ 3 ∧ cv = .int .i64 (c : Int) ∧ TlS w wr x T k X s v ow gA tA oA gc tc oc 0 c ∧ k ≤ 1000 + 100 * c
def EsC4 (w : World) (x T L : Nat) (v : WaV) (ow : List Nat) (gA tA oA : Option Addr) (gc tc oc : Nat) (cv : Value) (wr : World) : Prop :=
  ∃ (c k : Nat) (X : List Nat) (s : EpV), c ≤ 4 ∧ cv = .int .i64 (c : Int) ∧ LfS w wr x T L k X s v ow gA tA oA gc tc oc c 3 (lfE v ow ow.length) ∧ k ≤ 2000 + 100 * c
theorem eheld0 {w0 w : World} {x k : Nat} {X : List Nat} {s : EpV} (h : EpC w0 w x 4 X k s) (i : Nat) (hi : i < 4) (hm : (s.wk i).gs.length = 0) :
    Calls Try.prog 21 #[PV x, IV i] w fun e w' => ∃ A c, e = .returned (.slice A 0 c) ∧ Below w.heap.size w w' := by
  have h1 := eheldC h i hi
  unfold ThE at h1
  rw [List.length_map, hm] at h1
  exact h1.mono (fun e w' ⟨A, c, e1, _, e3⟩ => ⟨A, c, e1, e3⟩)
end Go.Proofs.Ytpjgpiiibgogeaa
