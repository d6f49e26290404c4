/- The map of a shard: its mathematics. -/
import Derived.Test.YtpjgpiiibgogeaaOrders
import Derived.Test.YtpjgpiiibgogeaaSums
namespace Go.Proofs.Ytpjgpiiibgogeaa
set_option linter.unusedVariables false

abbrev Ent := List Nat × Int
abbrev noE : Ent := ([], 0)
def plK : List Ent → List Nat → Nat
  | [], _ => 0
  | e :: l, k => if orderV e.1 k < 0 then plK l k + 1 else 0
theorem plK_le (l : List Ent) (k : List Nat) : plK l k ≤ l.length := by
  induction l with
  | nil => exact Nat.le_refl _
  | cons e l ih => simp only [plK, List.length_cons]; split <;> omega
theorem plK_eq {l : List Ent} {k : List Nat} {p : Nat} (hp : p ≤ l.length) (h1 : ∀ i, i < p → orderV (l.getD i noE).1 k < 0) (h2 : p < l.length → 0 ≤ orderV (l.getD p noE).1 k) : plK l k = p := by
  induction l generalizing p with
  | nil => simp at hp; subst hp; rfl
  | cons e l ih =>
    cases p with
    | zero =>
      have := h2 (by simp)
      simp only [List.getD_cons_zero] at this
      simp only [plK]; rw [if_neg (by omega)]
    | succ p =>
      have h0 := h1 0 (by omega)
      simp only [List.getD_cons_zero] at h0
      simp only [plK]; rw [if_pos h0]
      congr 1
      refine ih (by simpa using hp) (fun i hi => ?_) (fun hi => ?_)
      · have := h1 (i + 1) (by omega); simpa using this
      · have := h2 (by simpa using hi); simpa using this
theorem plK_lt {l : List Ent} {k : List Nat} : ∀ e ∈ l.take (plK l k), orderV e.1 k < 0 := by
  induction l with
  | nil => intro e he; simp at he
  | cons a l ih =>
    intro e he
    simp only [plK] at he
    split at he
    · rename_i h
      simp only [List.take_succ_cons, List.mem_cons] at he
      rcases he with rfl | he
      · exact h
      · exact ih e he
    · simp at he
theorem plK_at {l : List Ent} {k : List Nat} (h : plK l k < l.length) : 0 ≤ orderV (l.getD (plK l k) noE).1 k := by
  induction l with
  | nil => simp at h
  | cons a l ih =>
    simp only [plK] at h ⊢
    split
    · rename_i hc
      rw [if_pos hc] at h
      simpa using ih (by simpa using h)
    · rename_i hc
      simp only [List.getD_cons_zero]; omega
def hasK (l : List Ent) (k : List Nat) : Bool := decide (plK l k < l.length) && (orderV (l.getD (plK l k) noE).1 k == 0)
def srtK (l : List Ent) : Prop := l.Pairwise (fun a b => orderV a.1 b.1 < 0)
theorem order_tr {a b c : List Nat} (h1 : orderV a b < 0) (h2 : orderV b c < 0) : orderV a c < 0 := (orderV_le_trans (by omega) (by omega)).2 (.inl h1)
theorem order_tr1 {a b c : List Nat} (h1 : orderV a b < 0) (h2 : orderV b c ≤ 0) : orderV a c < 0 := (orderV_le_trans (by omega) (by omega)).2 (.inl h1)
theorem order_tr2 {a b c : List Nat} (h1 : orderV a b ≤ 0) (h2 : orderV b c < 0) : orderV a c < 0 := (orderV_le_trans (by omega) (by omega)).2 (.inr h2)
theorem getD_mem {l : List Ent} {i : Nat} (h : i < l.length) : l.getD i noE ∈ l := by
  rw [List.getD_eq_getElem?_getD, List.getElem?_eq_getElem h]; exact List.getElem_mem h
theorem getD_at {l : List Ent} {i : Nat} (h : i < l.length) : l.getD i noE = l[i] := by
  rw [List.getD_eq_getElem?_getD, List.getElem?_eq_getElem h]; rfl
theorem srt_lt {l : List Ent} (h : srtK l) {i j : Nat} (hij : i < j) (hj : j < l.length) : orderV (l.getD i noE).1 (l.getD j noE).1 < 0 := by
  rw [getD_at (by omega), getD_at hj]
  exact List.pairwise_iff_getElem.1 h i j (by omega) hj hij
/-- What stands from the place on is not below the key, and behind it above what stands there. -/
theorem drop_ge {l : List Ent} {k : List Nat} (h : srtK l) : ∀ e ∈ l.drop (plK l k), 0 ≤ orderV e.1 k := by
  intro e he
  obtain ⟨i, hi, rfl⟩ := List.getElem_of_mem he
  rw [List.length_drop] at hi
  rw [List.getElem_drop]
  have h0 := plK_at (l := l) (k := k) (by omega)
  rcases Nat.eq_zero_or_pos i with rfl | hp
  · rw [getD_at (by omega)] at h0; simpa using h0
  · have h1 := srt_lt h (i := plK l k) (j := plK l k + i) (by omega) (by omega)
    rw [getD_at (i := plK l k + i) (by omega)] at h1
    have hn := orderV_neg (l[plK l k + i]).1 k
    rcases Int.lt_or_le (orderV (l[plK l k + i]).1 k) 0 with hlt | hge
    · have := order_tr h1 hlt; omega
    · exact hge
theorem has_key {l : List Ent} {k : List Nat} (h : hasK l k = true) : plK l k < l.length ∧ (l.getD (plK l k) noE).1 = k := by
  unfold hasK at h
  simp only [Bool.and_eq_true, decide_eq_true_eq, beq_iff_eq] at h
  exact ⟨h.1, orderV_zero h.2⟩
theorem drop_gt {l : List Ent} {k : List Nat} (h : srtK l) : ∀ e ∈ l.drop (plK l k + (hasK l k).toNat), 0 < orderV e.1 k := by
  intro e he
  rcases hh : hasK l k with _ | _
  · rw [hh] at he
    simp only [Bool.toNat_false, Nat.add_zero] at he
    have h1 := drop_ge h e he
    obtain ⟨i, hi, rfl⟩ := List.getElem_of_mem he
    rw [List.length_drop] at hi
    rcases Nat.eq_zero_or_pos i with rfl | hp
    · have hl : plK l k < l.length := by omega
      unfold hasK at hh
      rw [decide_eq_true hl, Bool.true_and, getD_at hl] at hh
      rw [List.getElem_drop] at h1 ⊢
      simp only [Nat.add_zero, beq_eq_false_iff_ne, ne_eq] at h1 hh ⊢
      omega
    · rw [List.getElem_drop]
      have h0 := plK_at (l := l) (k := k) (by omega)
      have h2 := srt_lt h (i := plK l k) (j := plK l k + i) (by omega) (by omega)
      rw [getD_at (i := plK l k + i) (by omega)] at h2
      have n1 := orderV_neg k (l.getD (plK l k) noE).1
      have n2 := orderV_neg k (l[plK l k + i]).1
      have := order_tr2 (a := k) (by omega) h2
      omega
  · rw [hh] at he
    obtain ⟨hl, hk⟩ := has_key hh
    simp only [Bool.toNat_true] at he
    obtain ⟨i, hi, rfl⟩ := List.getElem_of_mem he
    rw [List.length_drop] at hi
    rw [List.getElem_drop]
    have h2 := srt_lt h (i := plK l k) (j := plK l k + 1 + i) (by omega) (by omega)
    rw [getD_at (i := plK l k + 1 + i) (by omega), hk] at h2
    have n2 := orderV_neg k (l[plK l k + 1 + i]).1
    omega

structure AnsV where
  E : Nat
  N : Int
def putK (l : List Ent) (k : List Nat) (x : Int) : List Ent := l.take (plK l k) ++ (k, x) :: l.drop (plK l k + (hasK l k).toNat)
def cutK (l : List Ent) (k : List Nat) : List Ent := l.take (plK l k) ++ l.drop (plK l k + 1)
/-- The value that a Put or an Add makes. -/
def newV (op : Nat) (k : List Nat) (v : Int) (l : List Ent) : Int := if hasK l k = true ∧ op = 3 then clampV ((l.getD (plK l k) noE).2 + v) else v
def setV (op : Nat) (k : List Nat) (v : Int) (l : List Ent) : AnsV × List Ent :=
  if hasK l k = false ∧ 4096 ≤ l.length then (⟨10, 0⟩, []) else (⟨0, newV op k v l⟩, putK l k (newV op k v l))
def ofV (op : Nat) (k : List Nat) (v : Int) (l : List Ent) : AnsV × List Ent :=
  if op = 2 ∨ op = 3 then setV op k v l
  else if hasK l k = false then (⟨7, 0⟩, [])
  else if op = 1 then (⟨0, (l.getD (plK l k) noE).2⟩, []) else (⟨0, (l.getD (plK l k) noE).2⟩, cutK l k)
def chgV (op : Nat) (a : AnsV) : Bool := (op != 1) && (a.E == 0)

structure WfL (l : List Ent) : Prop where
  srt : srtK l
  tick : ∀ e ∈ l, 0 ≤ e.2 ∧ e.2 ≤ 4611686018427387903
  len : l.length ≤ 4096
theorem wf_nil : WfL [] := ⟨List.Pairwise.nil, (by simp), by simp⟩
theorem put_srt {l : List Ent} (h : srtK l) (k : List Nat) (x : Int) : srtK (putK l k x) := by
  unfold putK srtK
  rw [List.pairwise_append]
  refine ⟨h.sublist (List.take_sublist _ _), ?_, ?_⟩
  · rw [List.pairwise_cons]
    refine ⟨fun e he => ?_, h.sublist (List.drop_sublist _ _)⟩
    have := drop_gt h e he
    have n := orderV_neg k e.1
    show orderV k e.1 < 0
    have n2 := orderV_neg e.1 k
    omega
  · intro a ha b hb
    have h1 := plK_lt a ha
    rcases List.mem_cons.1 hb with rfl | hb
    · exact h1
    · have := drop_gt h b hb
      have n2 := orderV_neg b.1 k
      exact order_tr h1 (by omega)
theorem cut_srt {l : List Ent} (h : srtK l) (k : List Nat) : srtK (cutK l k) := by
  unfold cutK
  have : l.take (plK l k) ++ l.drop (plK l k + 1) = l.eraseIdx (plK l k) := by rw [List.eraseIdx_eq_take_drop_succ]
  rw [this]
  exact h.sublist (List.eraseIdx_sublist _ _)
theorem put_len {l : List Ent} (k : List Nat) (x : Int) : (putK l k x).length = l.length + 1 - (hasK l k).toNat := by
  have := plK_le l k
  unfold putK
  rcases hh : hasK l k with _ | _
  · simp; omega
  · have := (has_key hh).1
    simp; omega
theorem newV_tick {op : Nat} {k : List Nat} {v : Int} {l : List Ent} (hv : 0 ≤ v ∧ v ≤ 4611686018427387903) : 0 ≤ newV op k v l ∧ newV op k v l ≤ 4611686018427387903 := by
  unfold newV; split
  · exact clampV_bd _
  · exact hv
theorem of_wf {l : List Ent} (h : WfL l) (op : Nat) (k : List Nat) (v : Int) (hv : op = 2 ∨ op = 3 → 0 ≤ v ∧ v ≤ 4611686018427387903) : WfL (ofV op k v l).2 := by
  unfold ofV
  split
  · rename_i ho
    unfold setV
    split
    · exact wf_nil
    · rename_i hf
      have hn := newV_tick (op := op) (k := k) (l := l) (hv ho)
      refine ⟨put_srt h.srt _ _, fun e he => ?_, ?_⟩
      · show 0 ≤ e.2 ∧ _
        simp only [putK, List.mem_append, List.mem_cons] at he
        rcases he with he | rfl | he
        · exact h.tick e (List.mem_of_mem_take he)
        · exact hn
        · exact h.tick e (List.mem_of_mem_drop he)
      · show (putK _ _ _).length ≤ _
        rw [put_len]
        have := h.len
        rcases hh : hasK l k with _ | _
        · rw [hh] at hf; simp only [true_and] at hf
          simp; omega
        · simp; omega
  · split
    · exact wf_nil
    · split
      · exact wf_nil
      · refine ⟨cut_srt h.srt _, fun e he => ?_, ?_⟩
        · simp only [cutK, List.mem_append] at he
          rcases he with he | he
          · exact h.tick e (List.mem_of_mem_take he)
          · exact h.tick e (List.mem_of_mem_drop he)
        · have := h.len
          have := plK_le l k
          simp [cutK]; omega
theorem of_n {l : List Ent} (h : WfL l) (op : Nat) (k : List Nat) (v : Int) (hv : op = 2 ∨ op = 3 → 0 ≤ v ∧ v ≤ 4611686018427387903) : 0 ≤ (ofV op k v l).1.N ∧ (ofV op k v l).1.N ≤ 4611686018427387903 := by
  unfold ofV
  split
  · rename_i ho
    unfold setV
    split
    · simp
    · exact newV_tick (hv ho)
  · split
    · simp
    · rename_i hh
      have hl := (has_key (by simpa using hh)).1
      have := h.tick _ (getD_mem hl)
      split
      · exact this
      · exact this
end Go.Proofs.Ytpjgpiiibgogeaa
