/- Contracts: Ident and Parts, by the program and by the document. -/
import Derived.Test.YtpjgpiiibgogeaaBytes
namespace Go.Proofs.Ytpjgpiiibgogeaa
open Go.RowKit
set_option maxRecDepth 100000

theorem ret_si {A : Option Addr} {n c : Nat} {k : IntKind} {a b : Int} (h : a = b) : Ending.returned (.tuple #[.slice A n c, .int k a]) = .returned (.tuple #[.slice A n c, .int k b]) := by rw [h]

def NoId (w : World) (x : Int) (e : Ending) (w' : World) : Prop := e = .returned (.tuple #[.slice none 0 0, .int .i64 x]) ∧ w = w'

/-- A new slice of bytes and OK. -/
def IdEnd (w : World) (zs : List Nat) (n : Nat) (e : Ending) (w' : World) : Prop :=
  ∃ A c, e = .returned (.tuple #[.slice A n c, .int .i64 0]) ∧ OwnB w' w.heap.size A n c zs ∧ Below w.heap.size w w'

theorem made_block {w1 : World} {g n : Nat} (h : w1.ownsRow g 5 1 (.slice (some ⟨g, 0, none⟩) n n) n (madeCells #[.int .u8 0] n).toList) : w1.heap[g]? = some (.cells ((List.replicate n 0).map V8).toArray 5 (0, 0)) := by
  rw [toList_madeCells_one] at h
  rcases h.2 with ⟨h1, h2⟩ | ⟨g', cap, cur, h1, h2, h3, h4, h5, h6, h7⟩
  · simp at h1
  · simp only [Value.slice.injEq, Option.some.injEq, Addr.mk.injEq, and_true, true_and] at h1
    obtain ⟨rfl, rfl⟩ := h1
    rw [List.take_of_length_le (by rw [Array.length_toList]; omega)] at h7
    rw [h3, List.map_replicate, show V8 0 = .int .u8 0 from rfl, ← h7]

theorem block_set {w : World} {g : Nat} {xs : List Nat} (h : w.heap[g]? = some (.cells (xs.map V8).toArray 5 (0, 0))) (k v : Nat) :
    (w.setCell ⟨g, k, none⟩ (V8 v)).heap[g]? = some (.cells ((xs.set k v).map V8).toArray 5 (0, 0)) := by
  rw [heap_setCell_same w g k _ _ _ h]
  simp

theorem block_cell {w : World} {g : Nat} {xs : List Nat} (h : w.heap[g]? = some (.cells (xs.map V8).toArray 5 (0, 0))) (k : Nat) (hk : k < xs.length) : w.cell? ⟨g, k, none⟩ = some (V8 (xs.getD k 0)) := by
  rw [cell_of_row w g k _ _ _ h]
  simp [List.getD_eq_getElem?_getD, hk]

theorem splice_map (xs zs : List Nat) (off : Nat) : splice (xs.map V8) off (zs.map V8) = (splice xs off zs).map V8 := by
  simp [splice]

theorem ident_fin {w2 : World} {g p n : Nat} {zs : List Nat} (hl : zs.length = n) (hby : ∀ d ∈ zs, d < 256) (hp : p < 32) (hn : n ≤ 255)
    (h : w2.heap[g]? = some (.cells (splice (((List.replicate (n + 1) 0).set 0 p).map V8) 1 (zs.map V8)).toArray 5 (0, 0))) : OwnB w2 g (some ⟨g, 0, none⟩) (n + 1) (n + 1) (p :: zs) := by
  have e : splice ((List.replicate (n + 1) 0).set 0 p) 1 zs = p :: zs := by
    unfold splice
    simp [List.replicate_succ, hl]
    omega
  rw [splice_map, e] at h
  refine OwnB.of_block h (Nat.le_refl _) (by simp [hl]) (by unfold maxLen; omega) (fun d hd => ?_)
  rcases List.mem_cons.1 hd with rfl | hd
  · omega
  · exact hby d hd

/-- The document's Ident: the loop's relation. -/
def RidInv (w : World) (p : Nat) (zs : List Nat) (n : Nat) (cv kv : Value) (wr : World) : Prop :=
  ∃ (k c : Nat) (A : Option Addr), kv = .int .i64 (k : Int) ∧ cv = .slice A (k + 1) c ∧ OwnB wr w.heap.size A (k + 1) c (p :: zs.take k) ∧ Below w.heap.size w wr ∧ k ≤ n

end Go.Proofs.Ytpjgpiiibgogeaa
