/- Lists of payloads in memory; a reader in memory. -/
import Derived.Test.YtndgladfcogiiaaFrD
namespace Go.Proofs.Ytndgladfcogiiaa
open Go.RowKit
set_option maxRecDepth 100000
set_option linter.unusedVariables false

structure Row where
  b : Nat
  n : Nat
  c : Nat
  p : List Nat
abbrev Row.val (r : Row) : Value := .slice (some ⟨r.b, 0, none⟩) r.n r.c
def blkP (A : Option Addr) (rs : List Row) : List Nat := bkV A ++ rs.map (·.b)
structure RowOk (w : World) (B : Nat) (r : Row) : Prop where
  own : OwnV w B (some ⟨r.b, 0, none⟩) r.n r.c (r.p.map V8)
  byte : ∀ d ∈ r.p, d < 256
/-- A list of payloads: each in a block of its own, the list in one more. -/
structure PayL (w : World) (B : Nat) (A : Option Addr) (k c : Nat) (rs : List Row) : Prop where
  own : OwnV w B A k c (rs.map Row.val)
  row : ∀ r ∈ rs, RowOk w B r
  nd : (blkP A rs).Nodup

section
variable {w w' : World} {B B' k c : Nat} {A : Option Addr} {rs : List Row} {S : List Nat} {r : Row}
theorem RowOk.len (h : RowOk w B r) : r.p.length = r.n := by have := h.own.len; simpa using this
theorem RowOk.off (h : RowOk w B r) (hf : Off S w w') (hS : r.b ∉ S) : RowOk w' B r := ⟨h.own.off hf (by intro y hy; simp [bkV] at hy; exact hy ▸ hS), h.byte⟩
theorem RowOk.lt (h : RowOk w B r) : B ≤ r.b ∧ r.b < w.heap.size := h.own.lt r.b (by simp [bkV])
theorem PayL.len (h : PayL w B A k c rs) : rs.length = k := by have := h.own.len; simpa using this
theorem PayL.lt (h : PayL w B A k c rs) : ∀ y ∈ blkP A rs, B ≤ y ∧ y < w.heap.size := by
  intro y hy
  rcases List.mem_append.1 hy with hy | hy
  · exact h.own.lt y hy
  · obtain ⟨r, hr, rfl⟩ := List.mem_map.1 hy
    exact (h.row r hr).lt
theorem PayL.off (h : PayL w B A k c rs) (hf : Off S w w') (hS : ∀ y ∈ blkP A rs, y ∉ S) : PayL w' B A k c rs :=
  ⟨h.own.off hf fun y hy => hS y (List.mem_append.2 (.inl hy)), fun r hr => (h.row r hr).off hf (hS _ (List.mem_append.2 (.inr (List.mem_map.2 ⟨r, hr, rfl⟩)))), h.nd⟩
theorem PayL.below (h : PayL w B A k c rs) (hb : Below w.heap.size w w') : PayL w' B A k c rs := h.off (S := []) (Off.of_below hb) (by simp)
theorem PayL.keep (h : PayL w B A k c rs) (hf : Off S w w') (hS : ∀ y ∈ S, y < B) : PayL w' B A k c rs := h.off hf fun y hy hs => by have := (h.lt y hy).1; have := hS y hs; omega
theorem PayL.mono (h : PayL w B A k c rs) (hB : B' ≤ B) : PayL w B' A k c rs := ⟨h.own.mono hB, fun r hr => ⟨(h.row r hr).own.mono hB, (h.row r hr).byte⟩, h.nd⟩
theorem PayL.nil (w : World) (B : Nat) : PayL w B none 0 0 [] := ⟨OwnV.nil w B, by simp, by simp [blkP, bkV]⟩
/-- One more payload. -/
theorem PayL.push {A' : Option Addr} {c' : Nat} (h : PayL w B A k c rs) (hr : RowOk w B r) (hn : r.b ∉ blkP A rs)
    (ho : OwnV w' B A' (k + 1) c' (rs.map Row.val ++ [r.val])) (hf : Off (bkV A) w w') (hA : ∀ y ∈ bkV A', y ∈ bkV A ∨ y = w.heap.size ∧ y < w'.heap.size) : PayL w' B A' (k + 1) c' (rs ++ [r]) := by
  have hnd := h.nd
  have hlt := h.lt
  have hrl := hr.lt
  unfold blkP at hnd hn hlt
  rw [List.nodup_append] at hnd
  obtain ⟨n1, n2, n3⟩ := hnd
  refine ⟨by simpa using ho, fun q hq => ?_, ?_⟩
  · rcases List.mem_append.1 hq with hq | hq
    · refine (h.row q hq).off hf fun hs => n3 _ hs _ (List.mem_map.2 ⟨q, hq, rfl⟩) rfl
    · obtain rfl := List.mem_singleton.1 hq
      exact hr.off hf fun hs => hn (List.mem_append.2 (.inl hs))
  · unfold blkP
    rw [List.nodup_append]
    have hA1 : ∀ y ∈ bkV A', ∀ q, q ∈ (rs ++ [r]).map (·.b) → y ≠ q := by
      intro y hy q hq e
      subst e
      rw [List.map_append, List.mem_append] at hq
      rcases hA y hy with hy' | ⟨rfl, _⟩
      · rcases hq with hq | hq
        · exact n3 _ hy' _ hq rfl
        · simp at hq; subst hq; exact hn (List.mem_append.2 (.inl hy'))
      · rcases hq with hq | hq
        · have := (hlt _ (List.mem_append.2 (.inr hq))).2; omega
        · simp at hq; omega
    refine ⟨?_, ?_, fun y hy q hq => hA1 y hy q hq⟩
    · cases A' with
      | none => simp [bkV]
      | some a => simp [bkV]
    · rw [List.map_append, List.nodup_append]
      refine ⟨n2, by simp, fun y hy q hq e => ?_⟩
      simp at hq
      subst hq
      subst e
      exact hn (List.mem_append.2 (.inr hy))
theorem PayL.at_ (h : PayL w B A k c rs) {i : Nat} (hi : i < k) : ∃ r b off, rs[i]? = some r ∧ RowOk w B r ∧ A = some ⟨b, off, none⟩ ∧ w.cell? ⟨b, off + i, none⟩ = some r.val := by
  have hl := h.len
  obtain ⟨b, off, e, _, _, h3, _⟩ := h.own.cell (by omega)
  have hr : rs[i]? = some rs[i] := List.getElem?_eq_getElem (by omega)
  exact ⟨_, b, off, hr, h.row _ (List.getElem_mem _), e, h3 i _ (by rw [List.getElem?_map, hr]; rfl)⟩
end

/-- A reader in memory: what waits, and whether it is closed. -/
structure RdM (w : World) (B rb : Nat) (A : Option Addr) (n c : Nat) (xs : List Nat) (cl : Bool) : Prop where
  blk : BlkL w rb [.slice A n c, .bool cl]
  own : OwnV w B A n c (xs.map V8)
  byte : ∀ d ∈ xs, d < 256
  ne : rb ∉ bkV A
section
variable {w w' : World} {B B' rb n c : Nat} {A : Option Addr} {xs : List Nat} {cl : Bool} {S : List Nat}
theorem RdM.off (h : RdM w B rb A n c xs cl) (hf : Off S w w') (h1 : rb ∉ S) (h2 : ∀ y ∈ bkV A, y ∉ S) : RdM w' B rb A n c xs cl := ⟨h.blk.off hf h1, h.own.off hf h2, h.byte, h.ne⟩
theorem RdM.below (h : RdM w B rb A n c xs cl) (hb : Below w.heap.size w w') : RdM w' B rb A n c xs cl := h.off (S := []) (Off.of_below hb) (by simp) (by simp)
theorem RdM.len (h : RdM w B rb A n c xs cl) : xs.length = n := by have := h.own.len; simpa using this
theorem RdM.mono (h : RdM w B rb A n c xs cl) (hB : B' ≤ B) : RdM w B' rb A n c xs cl := ⟨h.blk, h.own.mono hB, h.byte, h.ne⟩
end
end Go.Proofs.Ytndgladfcogiiaa
