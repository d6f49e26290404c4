/- Words for lists of bytes that are only read, wherever they lie. -/
import Derived.Test.YtndgladfcogiiaaMem
import Derived.ProofKit
namespace Go.Proofs.Ytndgladfcogiiaa
open Go.RowKit Go.ChangeShapes Go.WideShapes

/-- The slice value .slice A n c reads as the bytes zs, below block B. -/
structure Arg (w : World) (B : Nat) (A : Option Addr) (n c : Nat) (zs : List Nat) : Prop where
  len : zs.length = n
  le : n ≤ c
  cap : c ≤ maxLen
  byte : ∀ d ∈ zs, d < 256
  none_ : A = none → n = 0 ∧ c = 0
  at_ : 0 < n → ∃ b off, A = some ⟨b, off, none⟩ ∧ b < B ∧ ∀ k, k < n → w.cell? ⟨b, off + k, none⟩ = some (.int .u8 (zs.getD k 0 : Nat))

section
variable {w w' : World} {B B' n c : Nat} {A : Option Addr} {zs : List Nat}

theorem Arg.below (h : Arg w B A n c zs) (hb : Below B w w') : Arg w' B A n c zs :=
  ⟨h.len, h.le, h.cap, h.byte, h.none_, fun hn => by
    obtain ⟨b, off, e, hB, hc⟩ := h.at_ hn
    exact ⟨b, off, e, hB, fun k hk => (hb.cell (p := ⟨b, off + k, none⟩) hB).trans (hc k hk)⟩⟩
theorem Arg.more (h : Arg w B A n c zs) (hB : B ≤ B') : Arg w B' A n c zs :=
  ⟨h.len, h.le, h.cap, h.byte, h.none_, fun hn => by
    obtain ⟨b, off, e, hb, hc⟩ := h.at_ hn
    exact ⟨b, off, e, by omega, hc⟩⟩
theorem Arg.drewN (h : Arg w B A n c zs) (t : Nat) : Arg (w.drewN t) B A n c zs := ⟨h.len, h.le, h.cap, h.byte, h.none_, h.at_⟩
theorem Arg.lt (h : Arg w B A n c zs) (k : Nat) : zs.getD k 0 < 256 := by
  rcases Nat.lt_or_ge k zs.length with hk | hk
  · rw [List.getD_eq_getElem?_getD, List.getElem?_eq_getElem hk]
    exact h.byte _ (List.getElem_mem hk)
  · rw [List.getD_eq_getElem?_getD, List.getElem?_eq_none hk]; simp
theorem Arg.nil (w : World) (B : Nat) : Arg w B none 0 0 [] := ⟨rfl, Nat.le_refl _, by unfold maxLen; omega, by simp, fun _ => ⟨rfl, rfl⟩, fun h => absurd h (by omega)⟩
/-- A piece from k on, as the model cuts it. -/
theorem Arg.from_ (h : Arg w B A n c zs) {k : Nat} (hk : k ≤ n) : Arg w B (if c = k then A else A.map (·.add k)) (n - k) (c - k) (zs.drop k) := by
  refine ⟨by rw [List.length_drop, h.len], by have := h.le; omega, by have := h.cap; omega, fun d hd => h.byte d (List.mem_of_mem_drop hd), fun he => ?_, fun hn => ?_⟩
  · have hA : A = none := by
      split at he
      · exact he
      · cases A with
        | none => rfl
        | some a => cases he
    have := h.none_ hA
    omega
  · obtain ⟨b, off, rfl, hb, hc⟩ := h.at_ (by omega)
    rw [if_neg (by have := h.le; omega)]
    refine ⟨b, off + k, ?_, hb, fun j hj => ?_⟩
    · by_cases h0 : k = 0 <;> simp [Addr.add, h0]
    · have := hc (k + j) (by omega)
      rw [← Nat.add_assoc] at this
      rw [this]
      simp [List.getD_eq_getElem?_getD, List.getElem?_drop]
end

theorem byte_of_wf {n : Int} (h : (Lit.int .u8 n).wf = true) : ((n.toNat : Nat) : Int) = n ∧ n.toNat < 256 := by
  have := bounds_u8 h
  omega

/-- How a slice of bytes that came in reads. -/
theorem Arg.of_trod {H : Type} {enc : TypeId × Value → H} {P : Program} {W : World} {a : Option Addr} {len cap : Nat} {d : DataW H} {p : List MemPlace} {t e : TypeId} (ht : P.underlying t = some (.slice e)) (he : P.underlying e = some (.int .u8)) (hc : P.cellsOf e = 1)
    (h : DataW.Trod enc P W 0 (fun _ => true) true t (.slice a len cap) d p) :
    ∃ zs, Arg W W.heap.size a len cap zs ∧ (cap = 0 ∨ ∃ elems spare, d = .slice elems spare ∧ elems.length + spare.length = cap) := by
  obtain ⟨fuel, hf⟩ := h
  rcases open_ints ht he hc hf with ⟨hcs, hx0⟩ | ⟨x, l, c, zs, hcs, _, hl, hm, hz, hx, hcell, hwz⟩
  · simp [Value.cells] at hcs
    obtain ⟨rfl, rfl, rfl⟩ := hcs
    exact ⟨[], Arg.nil _ _, .inl rfl⟩
  · simp [Value.cells] at hcs
    obtain ⟨rfl, rfl, rfl⟩ := hcs
    have hzc : zs.length = cap := by simpa using hz
    have hd : d = .slice (lits .u8 (zs.take len)) (lits .u8 (zs.drop len)) := congrArg Prod.fst hx
    refine ⟨(zs.take len).map Int.toNat, ⟨by simp; omega, hl, hm, fun d hd => ?_, (fun h => by cases h), fun hn => ?_⟩, .inr ⟨_, _, hd, by simp [lits]; omega⟩⟩
    · obtain ⟨z, hz, rfl⟩ := List.mem_map.1 hd
      exact (byte_of_wf (hwz z (List.mem_of_mem_take hz))).2
    · have h0 := hcell 0 (by omega)
      obtain ⟨b, off, spot⟩ := x
      have hspot : spot = none := by simpa [Addr.add] using World.cell?_spot h0
      subst hspot
      refine ⟨b, off, rfl, ?_, fun k hk => ?_⟩
      · exact World.block_lt_of_cell? W _ (by simpa [Addr.add] using h0)
      · have hk' := hcell k (by omega)
        have e1 : ((zs.take len).map Int.toNat).getD k 0 = (zs.getD k 0).toNat := by
          simp [List.getD_eq_getElem?_getD, hk, show k < zs.length by omega]
        have hm : zs.getD k 0 ∈ zs := by
          rw [List.getD_eq_getElem?_getD, List.getElem?_eq_getElem (by omega)]
          exact List.getElem_mem _
        rw [e1, (byte_of_wf (hwz _ hm)).1, ← hk']
        by_cases h0 : k = 0 <;> simp [Addr.add, h0]
end Go.Proofs.Ytndgladfcogiiaa
