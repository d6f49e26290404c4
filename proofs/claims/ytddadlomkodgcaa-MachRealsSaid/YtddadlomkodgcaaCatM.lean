/- What a step of a pending call brings, by cases. -/
import Derived.Test.YtddadlomkodgcaaMaI
import Derived.Test.YtddadlomkodgcaaPk
import Derived.IntWalk
namespace Go.Proofs.Ytddadlomkodgcaa
open Go.RowKit
set_option maxRecDepth 100000
set_option linter.unusedVariables false

theorem stepO_cases {limit v : Nat} {x : CallV} (h : OkCall limit x) (hp : x.op ≠ 0) (hv : v ≤ limit) :
    (x.op = 1 ∧ v = limit ∧ stepO limit v x = ⟨true, 10, 0, v, noCall⟩) ∨ (x.op = 2 ∧ v = 0 ∧ stepO limit v x = ⟨true, 5, 0, v, noCall⟩) ∨
    (x.op = 1 ∧ v < limit ∧ stepO limit v x = ⟨true, 0, (v : Int) + 1, v + 1, noCall⟩) ∨ (x.op = 2 ∧ 0 < v ∧ stepO limit v x = ⟨true, 0, (v : Int) - 1, v - 1, noCall⟩) ∨
    (x.op = 3 ∧ stepO limit v x = ⟨true, 0, (v : Int), v, noCall⟩) ∨ ∃ x', stepO limit v x = ⟨false, 0, 0, v, x'⟩ ∧ x'.op = x.op := by
  have h3 := h.op
  have h2 := h.ld
  unfold stepO
  split
  · rename_i hl
    have h2 := h2 hl
    split
    · rename_i hvo
      split
      · rename_i o2
        exact .inr (.inr (.inr (.inl ⟨o2, by omega, rfl⟩)))
      · exact .inr (.inr (.inl ⟨by omega, by omega, rfl⟩))
    · exact .inr (.inr (.inr (.inr (.inr ⟨_, rfl, rfl⟩))))
  · split
    · rename_i o3
      exact .inr (.inr (.inr (.inr (.inl ⟨o3, rfl⟩))))
    · split
      · rename_i o1
        split
        · rename_i hvl
          exact .inl ⟨o1, hvl, rfl⟩
        · exact .inr (.inr (.inr (.inr (.inr ⟨_, rfl, o1.symm⟩))))
      · have o2 : x.op = 2 := by omega
        split
        · rename_i hvl
          exact .inr (.inl ⟨o2, hvl, rfl⟩)
        · exact .inr (.inr (.inr (.inr (.inr ⟨_, rfl, o2.symm⟩))))
theorem getD_set {α : Type} (l : List α) (i j : Nat) (x d : α) (h : i < l.length) : (l.set i x).getD j d = if i = j then x else l.getD j d := by
  rw [List.getD_eq_getElem?_getD, List.getD_eq_getElem?_getD, List.getElem?_set]
  split
  · simp
  · rfl

/-- The state behind some rounds of CountAtOnce. -/
structure AoS (w : World) (top c b bw bo : Nat) (wr : World) (i v k : Nat) (calls : List CallV) (ops : List Int) : Prop where
  cnt : CntS wr c b bw top v k calls
  ki : k ≤ i
  vt : v ≤ top
  okc : ∀ j, j < 64 → OkCall top (calls.getD j noCall)
  opb : BlkL wr bo (ops.map fun o => .int .u8 o)
  opl : ops.length = 5
  opc : ∀ j, j < 5 → (calls.getD j noCall).op ≠ 0 → ops.getD j 0 = ((calls.getD j noCall).op : Int)
  bel : Below w.heap.size w wr
  hc : w.heap.size ≤ c
  hb : w.heap.size ≤ b
  hbw : w.heap.size ≤ bw
  hbo : w.heap.size ≤ bo
  nc : bo ∉ [c, b, bw]
section
variable {w wr w' : World} {top c b bw bo i v k : Nat} {calls : List CallV} {ops : List Int}
theorem AoS.op5 (h : AoS w top c b bw bo wr i v k calls ops) {q : Nat} (hq : q < 5) : wr.cell? ⟨bo, q, none⟩ = some (.int .u8 (ops.getD q 0)) :=
  h.opb.cell q _ (by rw [List.getElem?_map, List.getElem?_eq_getElem (by rw [h.opl]; exact hq)]; simp [List.getD_eq_getElem?_getD, h.opl, hq])
theorem AoS.of5 (h : AoS w top c b bw bo wr i v k calls ops) {q : Nat} (hq : q < 5) : wr.frozen? ⟨bo, q, none⟩ = false :=
  h.opb.froz q (by simp [h.opl]; exact hq)
theorem AoS.alloc (h : AoS w top c b bw bo wr i v k calls ops) (o : Obj) : AoS w top c b bw bo (wr.alloc o) i v k calls ops :=
  ⟨h.cnt.alloc o, h.ki, h.vt, h.okc, h.opb.alloc o, h.opl, h.opc, h.bel.alloc h.bel.size o, h.hc, h.hb, h.hbw, h.hbo, h.nc⟩
theorem AoS.below (h : AoS w top c b bw bo wr i v k calls ops) (hb : Below wr.heap.size wr w') : AoS w top c b bw bo w' i v k calls ops :=
  ⟨h.cnt.below hb, h.ki, h.vt, h.okc, h.opb.below hb, h.opl, h.opc, h.bel.trans (hb.mono h.bel.size), h.hc, h.hb, h.hbw, h.hbo, h.nc⟩
theorem AoS.next (h : AoS w top c b bw bo wr i v k calls ops) : AoS w top c b bw bo wr (i + 1) v k calls ops :=
  ⟨h.cnt, Nat.le_succ_of_le h.ki, h.vt, h.okc, h.opb, h.opl, h.opc, h.bel, h.hc, h.hb, h.hbw, h.hbo, h.nc⟩
theorem AoS.okSet (h : AoS w top c b bw bo wr i v k calls ops) (q : Nat) (hq : q < 64) {x : CallV} (hx : OkCall top x) : ∀ j, j < 64 → OkCall top ((calls.set q x).getD j noCall) := by
  intro j hj
  rw [getD_set _ _ _ _ _ (by rw [h.cnt.len]; exact hq)]
  split
  · exact hx
  · exact h.okc j hj
theorem AoS.put (h : AoS w top c b bw bo wr i v k calls ops) {z : Nat} (hz : w.heap.size ≤ z) (hn : z ∉ [c, b, bw, bo]) (j : Nat) (u : Value) : AoS w top c b bw bo (wr.setCell ⟨z, j, none⟩ u) i v k calls ops := by
  simp only [List.mem_cons, List.not_mem_nil, or_false, not_or] at hn
  have ho : Off [z] wr (wr.setCell ⟨z, j, none⟩ u) := (Off.refl _ wr).setCell (by simp) _
  exact ⟨h.cnt.off ho (by simpa using Ne.symm hn.1) (by simpa using Ne.symm hn.2.1) (by simpa using Ne.symm hn.2.2.1), h.ki, h.vt, h.okc, h.opb.off ho (by simpa using Ne.symm hn.2.2.2), h.opl, h.opc, h.bel.setCell (p := ⟨z, j, none⟩) hz _, h.hc, h.hb, h.hbw, h.hbo, h.nc⟩
theorem AoS.new (h : AoS w top c b bw bo wr i v k calls ops) {z : Nat} (hz : wr.heap.size ≤ z) : z ∉ [c, b, bw, bo] := by
  have h1 := h.cnt.blk.lt
  obtain ⟨rg, hm⟩ := h.cnt.m
  have h2 := hm.blk.lt
  have h3 := hm.wd.lt
  have h4 := h.opb.lt
  simp; omega
/-- A Start that was done, and the note of it. -/
theorem AoS.start (h : AoS w top c b bw bo wr i v k calls ops) {q op : Nat} (hq : q < 5) (h1 : 1 ≤ op) (h3 : op ≤ 3) (hn : CntS w' c b bw top v k (calls.set q ⟨op, false, 0⟩)) (hf : Off [c, b, bw] wr w') :
    AoS w top c b bw bo (w'.setCell ⟨bo, q, none⟩ (.int .u8 (op : Int))) i v k (calls.set q ⟨op, false, 0⟩) (ops.set q (op : Int)) := by
  have hnc := h.nc
  simp only [List.mem_cons, List.not_mem_nil, or_false, not_or] at hnc
  refine ⟨hn.off (S := [bo]) ((Off.refl _ w').setCell (by simp) _) (by simpa using Ne.symm hnc.1) (by simpa using Ne.symm hnc.2.1) (by simpa using Ne.symm hnc.2.2), h.ki, h.vt, h.okSet q (by omega) (OkCall.fresh h1 h3), ?_, by simp [h.opl], ?_, ?_, h.hc, h.hb, h.hbw, h.hbo, h.nc⟩
  · have := (h.opb.off hf h.nc).set q (.int .u8 (op : Int)) (by simp [h.opl]; exact hq)
    rwa [show (ops.map fun o => Value.int .u8 o).set q (.int .u8 (op : Int)) = (ops.set q (op : Int)).map fun o => Value.int .u8 o by rw [List.map_set]] at this
  · intro j hj hne
    rw [getD_set _ _ _ _ _ (by rw [h.cnt.len]; omega)] at hne
    rw [getD_set _ _ _ _ _ (by rw [h.opl]; omega), getD_set _ _ _ _ _ (by rw [h.cnt.len]; omega)]
    split
    · rfl
    · rename_i e
      rw [if_neg e] at hne
      exact h.opc j hj hne
  · exact (hf.up h.bel h.hc h.hb h.hbw).setCell (p := ⟨bo, q, none⟩) h.hbo _
/-- A step that was done. -/
theorem AoS.step (h : AoS w top c b bw bo wr i v k calls ops) {q : Nat} (hq : q < 5) {v' : Nat} {x' : CallV} (hx : OkCall top x') (hv : v' ≤ top) (hn : CntS w' c b bw top v' (k + 1) (calls.set q x')) (hf : Off [c, b, bw] wr w')
    (hop : x'.op ≠ 0 → ops.getD q 0 = (x'.op : Int)) : AoS w top c b bw bo w' (i + 1) v' (k + 1) (calls.set q x') ops := by
  refine ⟨hn, by have := h.ki; omega, hv, h.okSet q (by omega) hx, h.opb.off hf h.nc, h.opl, ?_, hf.up h.bel h.hc h.hb h.hbw, h.hc, h.hb, h.hbw, h.hbo, h.nc⟩
  intro j hj hne
  rw [getD_set _ _ _ _ _ (by rw [h.cnt.len]; omega)] at hne ⊢
  split at hne
  · rename_i e
    subst e
    rw [if_pos rfl]
    exact hop hne
  · rename_i e
    rw [if_neg e]
    exact h.opc j hj hne
end
/-- The worker that a number picks. -/
def who5 (x : Int) : Nat := ((x % 18446744073709551616) % 5).toNat
theorem who5_lt (x : Int) : who5 x < 5 := by unfold who5; omega
theorem u64w (x : Int) : IntKind.u64.wrap x = x % 18446744073709551616 := by simp [IntKind.wrap, IntKind.bits, IntKind.signed]
theorem who5_eq (x : Int) : wrap64 ((IntKind.u64.wrap x).tmod 5) = (who5 x : Int) := by
  rw [u64w, Int.tmod_eq_emod_of_nonneg (by omega), IntWalk.wrap64_in _ ⟨by omega, by omega⟩]
  unfold who5; omega
end Go.Proofs.Ytddadlomkodgcaa
