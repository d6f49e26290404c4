/- Words for lists of int64: read wherever they lie; owned by the call that made them; an append of such lists. -/
import Derived.Test.YtpjgpiiibgogeaaMem
import Derived.ProofKit
import Derived.Maps.AppendAt
import Derived.Laws.CopyOwn
namespace Go.Proofs.Ytpjgpiiibgogeaa
open Go.RowKit Go.ChangeShapes Go.WideShapes
set_option maxRecDepth 100000

/-- A number as a value. -/
abbrev V64 (d : Int) : Value := .int .i64 d

/-- The slice value .slice A n c reads as the numbers zs, below block B. -/
structure ArgI (w : World) (B : Nat) (A : Option Addr) (n c : Nat) (zs : List Int) : Prop where
  len : zs.length = n
  le : n ≤ c
  cap : c ≤ maxLen
  none_ : A = none → n = 0 ∧ c = 0
  at_ : 0 < n → ∃ b off, A = some ⟨b, off, none⟩ ∧ b < B ∧ ∀ k, k < n → w.cell? ⟨b, off + k, none⟩ = some (.int .i64 (zs.getD k 0))

def OwnI (w : World) (B : Nat) (A : Option Addr) (n c : Nat) (xs : List Int) : Prop :=
  w.ownsRow B 2 1 (.slice A n c) n (xs.map V64)

theorem i64_info : (Try.prog.info? 2).map (fun i => (i.zero, i.size, i.bytes)) = some (some (.int .i64 0), 1, 8) := by kernel_rfl

section
variable {w w' : World} {B B' n c : Nat} {A : Option Addr} {xs zs : List Int}

theorem ArgI.below (h : ArgI w B A n c zs) (hb : Below B w w') : ArgI w' B A n c zs :=
  ⟨h.len, h.le, h.cap, h.none_, fun hn => by
    obtain ⟨b, off, e, hB, hc⟩ := h.at_ hn
    exact ⟨b, off, e, hB, fun k hk => (hb.cell (p := ⟨b, off + k, none⟩) hB).trans (hc k hk)⟩⟩
theorem ArgI.more (h : ArgI w B A n c zs) (hB : B ≤ B') : ArgI w B' A n c zs :=
  ⟨h.len, h.le, h.cap, h.none_, fun hn => by
    obtain ⟨b, off, e, hb, hc⟩ := h.at_ hn
    exact ⟨b, off, e, by omega, hc⟩⟩
theorem ArgI.drewN (h : ArgI w B A n c zs) (t : Nat) : ArgI (w.drewN t) B A n c zs := ⟨h.len, h.le, h.cap, h.none_, h.at_⟩
theorem ArgI.nil (w : World) (B : Nat) : ArgI w B none 0 0 [] := ⟨rfl, Nat.le_refl _, by unfold maxLen; omega, fun _ => ⟨rfl, rfl⟩, fun h => absurd h (by omega)⟩
/-- A piece from k on, as the model cuts it. -/
theorem ArgI.from_ (h : ArgI w B A n c zs) {k : Nat} (hk : k ≤ n) : ArgI w B (if c = k then A else A.map (·.add k)) (n - k) (c - k) (zs.drop k) := by
  refine ⟨by rw [List.length_drop, h.len], by have := h.le; omega, by have := h.cap; omega, fun he => ?_, fun hn => ?_⟩
  · have hA : A = none := by
      split at he
      · exact he
      · cases A with
        | none => rfl
        | some a => cases he
    have := h.none_ hA
    omega
  · obtain ⟨b, off, rfl, hb, hc⟩ := h.at_ (by omega)
    rw [if_neg (by have := h.le; omega)]
    refine ⟨b, off + k, ?_, hb, fun j hj => ?_⟩
    · by_cases h0 : k = 0 <;> simp [Addr.add, h0]
    · have := hc (k + j) (by omega)
      rw [← Nat.add_assoc] at this
      rw [this]
      simp [List.getD_eq_getElem?_getD, List.getElem?_drop]
/-- A piece from the head on. -/
theorem ArgI.to_ (h : ArgI w B A n c zs) {k : Nat} (hk : k ≤ n) : ArgI w B A k c (zs.take k) := by
  refine ⟨by rw [List.length_take, h.len]; omega, by have := h.le; omega, h.cap, fun he => ?_, fun hn => ?_⟩
  · have := h.none_ he; omega
  · obtain ⟨b, off, rfl, hb, hc⟩ := h.at_ (by omega)
    refine ⟨b, off, rfl, hb, fun j hj => ?_⟩
    rw [hc j (by omega)]
    simp [List.getD_eq_getElem?_getD, hj]

theorem OwnI.len (h : OwnI w B A n c xs) : xs.length = n := by have := h.1; simpa using this
theorem OwnI.arg (h : OwnI w B A n c xs) : ArgI w w.heap.size A n c xs := by
  have hl := h.len
  have hh := h
  rcases h with ⟨h0, ⟨h, h2⟩ | ⟨g, cap, cur, h1, h2, h3, h4, h5, h6, h7⟩⟩
  · simp only [Value.slice.injEq] at h
    obtain ⟨rfl, _, rfl⟩ := h
    obtain rfl : xs = [] := List.eq_nil_of_length_eq_zero (by omega)
    subst h2
    exact ArgI.nil _ _
  · simp only [Value.slice.injEq, true_and] at h1
    obtain ⟨rfl, rfl⟩ := h1
    have hlt : g < w.heap.size := by
      rcases Nat.lt_or_ge g w.heap.size with h | h
      · exact h
      · rw [Array.getElem?_eq_none h] at h3; cases h3
    refine ⟨hl, h4, h5, (fun h => by cases h), fun hn => ⟨g, 0, rfl, hlt, fun k hk => ?_⟩⟩
    have := World.ownsRow.cellAt (w := w) hh k (by omega)
    rw [Nat.zero_add, this, List.getElem?_map, List.getElem?_eq_getElem (by omega)]
    simp [V64, List.getD_eq_getElem?_getD, hl, hk]
theorem OwnI.mono (h : OwnI w B A n c xs) (hB : B' ≤ B) : OwnI w B' A n c xs := by
  rcases h with ⟨h0, h | ⟨g, cap, cur, h1, h2, h3⟩⟩
  · exact ⟨h0, .inl h⟩
  · exact ⟨h0, .inr ⟨g, cap, cur, h1, Nat.le_trans hB h2, h3⟩⟩
theorem OwnI.below (h : OwnI w B A n c xs) (hb : Below w.heap.size w w') : OwnI w' B A n c xs := by
  rcases h with ⟨h0, h | ⟨g, cap, cur, h1, h2, h3, h4⟩⟩
  · exact ⟨h0, .inl h⟩
  · have hlt : g < w.heap.size := by
      rcases Nat.lt_or_ge g w.heap.size with h | h
      · exact h
      · rw [Array.getElem?_eq_none h] at h3; cases h3
    exact ⟨h0, .inr ⟨g, cap, cur, h1, h2, (hb.block g hlt).trans h3, h4⟩⟩
theorem OwnI.drewN (h : OwnI w B A n c xs) (k : Nat) : OwnI (w.drewN k) B A n c xs := h
theorem OwnI.nil (w : World) (B : Nat) : OwnI w B none 0 0 [] := ⟨by simp, .inl ⟨rfl, rfl⟩⟩
/-- A literal that a call laid. -/
theorem OwnI.lit (w : World) (xs : List Int) (hn : xs.length = n) (hm : n ≤ maxLen) : OwnI (w.alloc (.cells (xs.map V64).toArray 2)) w.heap.size (some ⟨w.heap.size, 0, none⟩) n n xs := by
  have h := World.ownsRow_lit (base := w.heap.size) (e := 2) (size := 1) w (xs.map V64).toArray n (Nat.le_refl _) hm (by simp [hn])
  simpa [OwnI] using h

/-- The cells of what is read, for the laws on append and copy. -/
theorem ArgI.cells {ad : Addr} (h : ArgI w B (some ad) n c zs) : ∀ j u, (zs.map V64)[j]? = some u → w.cell? (ad.add j) = some u := by
  intro j u hj
  have hjl : j < zs.length := by
    rcases Nat.lt_or_ge j zs.length with h | h
    · exact h
    · rw [List.getElem?_eq_none (by simpa using h)] at hj; cases hj
  have hl := h.len
  obtain ⟨b, off, e, _, hc⟩ := h.at_ (by omega)
  injection e with e
  subst e
  have hk := hc j (by omega)
  have e2 : (⟨b, off, none⟩ : Addr).add j = ⟨b, off + j, none⟩ := by unfold Addr.add; split <;> simp_all
  rw [e2, hk]
  rw [List.getElem?_map, List.getElem?_eq_getElem hjl] at hj
  simp only [Option.map_some, Option.some.injEq] at hj
  rw [← hj]
  simp [V64, List.getD_eq_getElem?_getD, hjl]
theorem ints_oneCell (zs : List Int) : ∀ u ∈ zs.map V64, u.oneCell' = true := by
  intro u hu
  obtain ⟨z, _, rfl⟩ := List.mem_map.1 hu
  rfl
end

end Go.Proofs.Ytpjgpiiibgogeaa
