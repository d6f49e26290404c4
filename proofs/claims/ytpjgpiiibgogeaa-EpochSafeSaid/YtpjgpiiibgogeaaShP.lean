/- Contracts: of at any call, changes. -/
import Derived.Test.YtpjgpiiibgogeaaShO
namespace Go.Proofs.Ytpjgpiiibgogeaa
open Go.RowKit
set_option maxRecDepth 100000
set_option linter.unusedVariables false

/-- The version that a call makes, as it lies. -/
def ofK (op : Nat) (kA : Option Addr) (kn kc : Nat) (ks : List Nat) (v : Int) (es : List KV) : List KV :=
  if op = 2 ∨ op = 3 then
    if hasK (es.map KV.ent) ks = false ∧ 4096 ≤ es.length then [] else es.take (plK (es.map KV.ent) ks) ++ ⟨kA, kn, kc, ks, newV op ks v (es.map KV.ent)⟩ :: es.drop (plK (es.map KV.ent) ks + (hasK (es.map KV.ent) ks).toNat)
  else if hasK (es.map KV.ent) ks = false then [] else if op = 1 then [] else es.take (plK (es.map KV.ent) ks) ++ es.drop (plK (es.map KV.ent) ks + 1)
theorem ofK_ent (op : Nat) (kA : Option Addr) (kn kc : Nat) (ks : List Nat) (v : Int) (es : List KV) : (ofK op kA kn kc ks v es).map KV.ent = (ofV op ks v (es.map KV.ent)).2 := by
  unfold ofK ofV setV
  split
  · rw [List.length_map]
    split
    · rfl
    · simp [putK, List.map_take, List.map_drop, KV.ent]
  · split
    · rfl
    · split
      · rfl
      · simp [cutK, List.map_take, List.map_drop]
theorem ofK_mem {op : Nat} {kA : Option Addr} {kn kc : Nat} {ks : List Nat} {v : Int} {es : List KV} {e : KV} (h : e ∈ ofK op kA kn kc ks v es) : e ∈ es ∨ (e.A = kA ∧ e.n = kn ∧ e.c = kc ∧ e.zs = ks) := by
  unfold ofK at h
  split at h
  · split at h
    · simp at h
    · simp only [List.mem_append, List.mem_cons] at h
      rcases h with h | rfl | h
      · exact .inl (List.mem_of_mem_take h)
      · exact .inr ⟨rfl, rfl, rfl, rfl⟩
      · exact .inl (List.mem_of_mem_drop h)
  · split at h
    · simp at h
    · split at h
      · simp at h
      · simp only [List.mem_append] at h
        rcases h with h | h
        · exact .inl (List.mem_of_mem_take h)
        · exact .inl (List.mem_of_mem_drop h)
theorem two_mul_drop (n : Nat) : n * 2 = n * 2 := rfl

theorem of_any (w : World) (S : List Nat) (kA : Option Addr) (kn kc op : Nat) (v : Int) (A : Option Addr) (n c : Nat) (es : List KV) (ks : List Nat) (h : VerA w w.heap.size S A n c es) (hk : Arg w w.heap.size kA kn kc ks)
    (hw : WfL (es.map KV.ent)) (ho1 : 1 ≤ op) (ho4 : op ≤ 4) (hv : op = 2 ∨ op = 3 → 0 ≤ v ∧ v ≤ 4611686018427387903) :
    Calls Try.prog 88 #[.agg #[.int .u8 (op : Int), .slice kA kn kc, .int .i64 v], .slice A n c] w (OfEnd w (KVs (ofK op kA kn kc ks v es)) (ofV op ks v (es.map KV.ent)).1 (ofK op kA kn kc ks v es).length) := by
  have hl := h.len
  have hln := hw.len
  rw [List.length_map, hl] at hln
  have hll : (es.map KV.ent).length = n := by rw [List.length_map, hl]
  have hp := plK_le (es.map KV.ent) ks
  rw [hll] at hp
  have HF := Lib.hid (fun w' (hb : Below w.heap.size w w') => find_any w' w.heap.size w.heap.size S A kA n c kn kc es ks (h.below hb) (hk.below hb) hw.srt (by omega) hb.size hb.size)
  have hle := h.arg.le
  have hcap := h.arg.cap
  unfold maxLen at hcap
  have h1 := KVs_one es
  -- the entry at the place
  have hat : hasK (es.map KV.ent) ks = true → plK (es.map KV.ent) ks < n ∧ ∃ b off, A = some ⟨b, off, none⟩ ∧ b < w.heap.size ∧ w.cell? ⟨b, off + plK (es.map KV.ent) ks * 2 + 1, none⟩ = some (.int .i64 ((es.map KV.ent).getD (plK (es.map KV.ent) ks) noE).2) := by
    intro hh
    have hlt := (has_key hh).1
    rw [hll] at hlt
    obtain ⟨b, off, e, hb, _, hc1⟩ := h.at_ hlt
    refine ⟨hlt, b, off, e, hb, ?_⟩
    rw [ent_at es _ (by omega)]
    exact hc1
  have htk : hasK (es.map KV.ent) ks = true → 0 ≤ ((es.map KV.ent).getD (plK (es.map KV.ent) ks) noE).2 ∧ ((es.map KV.ent).getD (plK (es.map KV.ent) ks) noE).2 ≤ 4611686018427387903 := fun hh => hw.tick _ (getD_mem (has_key hh).1)
  rcases hh : hasK (es.map KV.ent) ks with _ | _
  · rw [hh] at HF
    rcases (by omega : op = 2 ∨ op = 3 ∨ (op ≠ 2 ∧ op ≠ 3)) with e2 | e3 | ⟨n2, n3⟩
    · -- a Put of a new key
      have hof : op = 2 ∨ op = 3 := .inl e2
      unfold ofV setV ofK
      rw [if_pos hof, if_pos hof, hh, hll, hl]
      rcases Nat.lt_or_ge n 4096 with hlt | hge
      · rw [if_neg (by omega), if_neg (by omega)]
        have hn : newV op ks v (es.map KV.ent) = v := by unfold newV; rw [hh, if_neg (by simp)]
        rw [hn]
        have := of_set2 w kA kn kc op v A n c _ false _ ⟨0, v⟩ (n + 1) (Lib.hid (fun w' hb => set_new w' kA kn kc op v A n c (plK (es.map KV.ent) ks) (KVs es) ((h.below hb).more hb.size).arg h1 hlt hp hln)) (by simp [e2]) HF
        rw [KVs_take, KVs_drop] at this
        simpa [KVs, KV.cells, hl, Nat.min_eq_left hp, show plK (List.map KV.ent es) ks + (n - plK (List.map KV.ent es) ks + 1) = n + 1 by omega] using this
      · rw [if_pos ⟨rfl, hge⟩, if_pos ⟨rfl, hge⟩]
        exact of_set2 w kA kn kc op v A n c _ false [] ⟨10, 0⟩ 0 (Lib.hid (fun w' hb => set_full w' kA kn kc op v A n c (plK (es.map KV.ent) ks) hge)) (by simp [e2]) HF
    · have hof : op = 2 ∨ op = 3 := .inr e3
      unfold ofV setV ofK
      rw [if_pos hof, if_pos hof, hh, hll, hl]
      rcases Nat.lt_or_ge n 4096 with hlt | hge
      · rw [if_neg (by omega), if_neg (by omega)]
        have hn : newV op ks v (es.map KV.ent) = v := by unfold newV; rw [hh, if_neg (by simp)]
        rw [hn]
        have := of_set3 w kA kn kc op v A n c _ false _ ⟨0, v⟩ (n + 1) (Lib.hid (fun w' hb => set_new w' kA kn kc op v A n c (plK (es.map KV.ent) ks) (KVs es) ((h.below hb).more hb.size).arg h1 hlt hp hln)) (by simp [e3]) (by simp [e3]) HF
        rw [KVs_take, KVs_drop] at this
        simpa [KVs, KV.cells, hl, Nat.min_eq_left hp, show plK (List.map KV.ent es) ks + (n - plK (List.map KV.ent es) ks + 1) = n + 1 by omega] using this
      · rw [if_pos ⟨rfl, hge⟩, if_pos ⟨rfl, hge⟩]
        exact of_set3 w kA kn kc op v A n c _ false [] ⟨10, 0⟩ 0 (Lib.hid (fun w' hb => set_full w' kA kn kc op v A n c (plK (es.map KV.ent) ks) hge)) (by simp [e3]) (by simp [e3]) HF
    · unfold ofV ofK
      have hno : ¬ (op = 2 ∨ op = 3) := by omega
      simp only [if_neg hno, hh, if_true]
      exact of_none w kA kn kc op v A n c _ (by simp; omega) (by simp; omega) HF
  · obtain ⟨hlt, b, off, hA, hb, hcx⟩ := hat hh
    have htk := htk hh
    rw [hh] at HF
    rcases (by omega : op = 2 ∨ op = 3 ∨ op = 1 ∨ op = 4) with e2 | e3 | e1 | e4
    · have hof : op = 2 ∨ op = 3 := .inl e2
      unfold ofV setV ofK
      rw [if_pos hof, if_pos hof, hh, hll, hl, if_neg (by simp), if_neg (by simp)]
      have hn : newV op ks v (es.map KV.ent) = v := by unfold newV; rw [hh, if_neg (by omega)]
      rw [hn]
      have := of_set2 w kA kn kc op v A n c _ true _ ⟨0, v⟩ n (Lib.hid (fun w' hb => set_put w' kA kn kc op v A n c (plK (es.map KV.ent) ks) (KVs es) ((h.below hb).more hb.size).arg h1 hlt (by omega) hln)) (by simp [e2]) HF
      rw [KVs_take, KVs_drop] at this
      simpa [KVs, KV.cells, hl, Nat.min_eq_left hp, show plK (List.map KV.ent es) ks + (n - (plK (List.map KV.ent es) ks + 1) + 1) = n by omega] using this
    · have hof : op = 2 ∨ op = 3 := .inr e3
      unfold ofV setV ofK
      rw [if_pos hof, if_pos hof, hh, hll, hl, if_neg (by simp), if_neg (by simp)]
      have hn : newV op ks v (es.map KV.ent) = clampV (((es.map KV.ent).getD (plK (es.map KV.ent) ks) noE).2 + v) := by unfold newV; rw [hh, if_pos ⟨rfl, e3⟩]
      rw [hn]
      have hvv := hv hof
      have := of_set3 w kA kn kc op v A n c _ true _ ⟨0, clampV (((es.map KV.ent).getD (plK (es.map KV.ent) ks) noE).2 + v)⟩ n (Lib.hid (fun w' hb' => by
        subst e3
        exact set_add w' kA kn kc v A n c (plK (es.map KV.ent) ks) (KVs es) ((h.below hb').more hb'.size).arg h1 hlt b off _ _ hA ((hb'.cell (p := ⟨b, off + plK (es.map KV.ent) ks * 2 + 1, none⟩) hb).trans hcx) (by have := hb'.size; omega)
          (Lib.hid (fun w2 => (tadd_ok w2 _ v htk hvv).mono fun _ _ ⟨g1, g2⟩ => ⟨g1, g2.symm⟩)) hln)) (by simp [e3]) (by simp [e3]) HF
      rw [KVs_take, KVs_drop] at this
      simpa [KVs, KV.cells, hl, Nat.min_eq_left hp, show plK (List.map KV.ent es) ks + (n - (plK (List.map KV.ent es) ks + 1) + 1) = n by omega] using this
    · unfold ofV ofK
      have hno : ¬ (op = 2 ∨ op = 3) := by omega
      simp only [if_neg hno, hh, Bool.true_eq_false, if_false, if_pos e1]
      exact of_get w kA kn kc op v A n c _ (by simp; omega) (by simp; omega) b off _ hA hcx hb hlt hle (by omega) (by simp [e1]) HF
    · unfold ofV ofK
      have hno : ¬ (op = 2 ∨ op = 3) := by omega
      have hn1 : ¬ op = 1 := by omega
      simp only [if_neg hno, hh, Bool.true_eq_false, if_false, if_neg hn1]
      have := of_drop w kA kn kc op v A n c _ (by simp; omega) (by simp; omega) b off _ hA hcx hb hlt hle (by omega) (by simp; omega) (KVs es) h.arg h1 hln HF
      rw [KVs_take, KVs_drop] at this
      simpa [KVs, KV.cells, hl, Nat.min_eq_left hp, show plK (List.map KV.ent es) ks + (n - (plK (List.map KV.ent es) ks + 1)) = n - 1 by omega] using this

theorem changes_any (w : World) (kA : Option Addr) (kn kc op : Nat) (v : Int) (r : AnsV) (hE : 0 ≤ (r.E : Int)) :
    Calls Try.prog 89 #[.agg #[.int .u8 (op : Int), .slice kA kn kc, .int .i64 v], .agg #[.bool true, .int .i64 (r.E : Int), .int .i64 r.N]] w fun e w' => e = .returned (.bool (chgV op r)) ∧ Below w.heap.size w w' := by
  obtain ⟨E, N⟩ := r
  simp only at hE
  by_cases h1 : op = 1
  · have q : ((op : Int) != 1) = false := by simp [h1]
    have e : chgV op ⟨E, N⟩ = false := by simp [chgV, h1]
    rw [e]
    clear h1 e
    go_enter Try.func89, Try.ntmps89
    go_wp2
    go_ret
    exact ⟨rfl, ((Below.refl w.heap.size w).alloc (by simp) _).alloc (by simp) _⟩
  · have q : ((op : Int) != 1) = true := by simp; omega
    have e : chgV op ⟨E, N⟩ = ((E : Int) == 0) := by
      have : (op != 1) = true := by simpa using h1
      rw [chgV, this, Bool.true_and]
      by_cases hE0 : E = 0
      · simp [hE0]
      · rw [beq_eq_false_iff_ne.mpr hE0, beq_eq_false_iff_ne.mpr (by omega)]
    rw [e]
    clear h1 e
    go_enter Try.func89, Try.ntmps89
    go_wp2
    go_ret
    exact ⟨rfl, ((Below.refl w.heap.size w).alloc (by simp) _).alloc (by simp) _⟩
end Go.Proofs.Ytpjgpiiibgogeaa
