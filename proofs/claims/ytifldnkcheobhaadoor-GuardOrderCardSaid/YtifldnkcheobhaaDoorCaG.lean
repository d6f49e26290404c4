/- The acts of a run, one behind the other: what stands in a round, and how it goes on. -/
import Derived.Test.YtifldnkcheobhaaDoorCaF
namespace Go.Proofs.YtifldnkcheobhaaDoor
open Go.RowKit
set_option maxRecDepth 100000
set_option linter.unusedVariables false
set_option maxHeartbeats 4000000

/-- A caught panic is told. -/
def TellC (w0 : World) : Prop := ∀ (W : World) (v : Value) (c : Option PanV), Glb w0 W → CauseR w0 W v c →
  Calls Tryd.prog 26 #[v] W fun e w' => e = .returned (.agg #[.int .u8 ((noneV c).1 : Int), .int .i64 (noneV c).2]) ∧ Off [] W w'
/-- A panic act panics. -/
def FailE (w0 W : World) (k : Nat) (n : Int) (e : Ending) (w' : World) : Prop :=
  ∃ T x older, e = .panicked ({ v := .iface T x, recovered := false } :: older) ∧ (∀ q ∈ older, q.goexit = false) ∧ CauseR w0 w' (.iface T x) (some (endV k n)) ∧ Off [] W w' ∧ ∀ y ∈ cbk (.iface T x), W.heap.size ≤ y
def FailC (w0 : World) : Prop := ∀ (W : World) (k : Nat) (n : Int), Glb w0 W → 11 ≤ k → k ≤ 24 → -9223372036854775808 ≤ n → n ≤ 9223372036854775807 →
  Calls Tryd.prog 51 #[.agg #[.int .u8 (k : Int), .int .i64 n]] W (FailE w0 W k n)
/-- What begin leaves. -/
def BegE (w0 W : World) (B bm rb : Nat) (Pa : Value) (A : Option Addr) (bb : Option Nat) (by1 v1 : Value) (R : RunR) (w' : World) : Prop :=
  ∃ A' c' v' v1', CaW w' B bm Pa A' c' R.st ∧ ByW w0 w' B bm A' (some rb) (ptrO bb) v' R.out ∧ (∀ y ∈ cbk v', W.heap.size ≤ y) ∧ ByW w0 w' B bm A' bb by1 v1' R.by_ ∧ (v1' = v1 ∨ v1' = .nilIface) ∧ Off (bm :: rb :: bb.toList ++ bkV A) W w' ∧ ∀ y ∈ bkV A', y ∈ bkV A ∨ W.heap.size ≤ y
/-- What stands in a round. -/
structure LpI (w0 W : World) (B bm rb : Nat) (Pa F : Value) (f : List ActV) (p : List (List ActV)) (A0 : Option Addr) (bb : Option Nat) (by1 v0 : Value) (pr pm : Nat) (A : Option Addr) (c : Nat) (s : CaS) (v1 : Value) (b : Option PanV) (bx : List (Nat × Nat)) (wr : World) : Prop where
  g : Glb w0 wr
  m : CaW wr B bm Pa A c s
  p : ProgP wr B Pa p
  f : ActP wr B F f
  own : ByW w0 wr B bm A (some rb) (ptrO bb) .nilIface none
  by_ : ByW w0 wr B bm A bb by1 v1 b
  byv : v1 = v0 ∨ v1 = .nilIface
  bbn : ∀ y ∈ bb.toList, y ≠ rb ∧ y < W.heap.size
  cb : ∀ y ∈ cbk v1, y ≠ rb ∧ y ∉ bb.toList
  box : BoxP wr bm rb A pr pm bx
  bxn : ∀ y, y = pr ∨ y = pm ∨ (∃ q ∈ bx, q.1 = y) → W.heap.size ≤ y
  off : Off (bm :: bb.toList ++ bkV A0) W wr
  new : ∀ y ∈ bkV A, y ∈ bkV A0 ∨ W.heap.size ≤ y
  h6 : 6 ≤ B
  hB : B ≤ bm
  hsz : bm < W.heap.size ∧ rb < W.heap.size ∧ B ≤ W.heap.size
section
variable {w0 W : World} {B bm rb : Nat} {Pa F : Value} {f : List ActV} {p : List (List ActV)} {A0 : Option Addr} {bb : Option Nat} {by1 v0 : Value} {pr pm : Nat} {A : Option Addr} {c : Nat} {s : CaS} {v1 : Value} {b : Option PanV} {bx : List (Nat × Nat)} {wr wr' : World}
theorem LpI.bbo (h : LpI w0 W B bm rb Pa F f p A0 bb by1 v0 pr pm A c s v1 b bx wr) : ∀ y ∈ bb.toList, y ≠ bm ∧ y ∉ bkV A ∧ B ≤ y := by
  intro y hy
  have hb := h.by_
  cases bb with
  | none => simp at hy
  | some z =>
    simp at hy; subst hy
    exact ⟨hb.2.2.2.1, hb.2.2.2.2.1, hb.2.2.1⟩
theorem LpI.cbo (h : LpI w0 W B bm rb Pa F f p A0 bb by1 v0 pr pm A c s v1 b bx wr) : ∀ y ∈ cbk v1, y ≠ bm ∧ y ∉ bkV A := by
  intro y hy
  have hb := h.by_
  cases bb with
  | none => obtain ⟨rfl, _⟩ := hb; simp [cbk] at hy
  | some z =>
    have := hb.2.2.2.2.2 y hy
    exact ⟨this.2.1, this.2.2.2⟩
/-- The machine goes on. -/
theorem LpI.step {A' : Option Addr} {c' : Nat} {s' : CaS} (h : LpI w0 W B bm rb Pa F f p A0 bb by1 v0 pr pm A c s v1 b bx wr) (hm : CaW wr' B bm Pa A' c' s') (hf : Off (bm :: bkV A) wr wr') (hA : ∀ y ∈ bkV A', y ∈ bkV A ∨ wr.heap.size ≤ y) :
    LpI w0 W B bm rb Pa F f p A0 bb by1 v0 pr pm A' c' s' v1 b bx wr' := by
  have hz := h.off.size
  have hbel : Below B wr wr' := hf.below h.m.hB (by intro y hy; simp only [List.mem_cons] at hy; rcases hy with rfl | hy; exact h.hB; exact (h.m.own.lt y hy).1)
  refine ⟨h.g.below h.h6 hbel, hm, h.p.below hbel, h.f.below hbel, ?_, ?_, h.byv, h.bbn, h.cb, ?_, h.bxn, ?_, fun y hy => (hA y hy).elim (h.new y) (fun q => Or.inr (by omega)), h.h6, h.hB, h.hsz⟩
  · exact h.own.off hf (by intro y hy; simp at hy; subst hy; simp only [List.mem_cons, not_or]; exact ⟨h.own.2.2.2.1, h.own.2.2.2.2.1⟩) (by simp [cbk]) hA
  · exact h.by_.off hf (by intro y hy; simp only [List.mem_cons, not_or]; exact ⟨(h.bbo y hy).1, (h.bbo y hy).2.1⟩) (by intro y hy; simp only [List.mem_cons, not_or]; exact h.cbo y hy) hA
  · exact h.box.off hf (by intro y hy; simp only [List.mem_cons] at hy; rcases hy with rfl | hy; exact Or.inl rfl; exact Or.inr (Or.inr hy)) hA
  · refine ⟨hf.os.trans h.off.os, hf.tape.trans h.off.tape, hf.output.trans h.off.output, Nat.le_trans h.off.size hf.size, fun k hk hn => ?_⟩
    rw [← h.off.block k hk hn]
    refine hf.block k (by omega) (fun hh => ?_)
    simp only [List.mem_cons, List.mem_append, List.cons_append] at hh hn
    rcases hh with rfl | hh
    · exact hn (Or.inl rfl)
    · exact (h.new k hh).elim (fun q => hn (Or.inr (Or.inr q))) (fun q => by omega)
theorem LpI.below (h : LpI w0 W B bm rb Pa F f p A0 bb by1 v0 pr pm A c s v1 b bx wr) (hb : Below wr.heap.size wr wr') : LpI w0 W B bm rb Pa F f p A0 bb by1 v0 pr pm A c s v1 b bx wr' :=
  h.step (h.m.below hb) ((Off.of_below hb).mono (S := []) (by simp)) (fun y hy => Or.inl hy)
theorem CaW.burn (h : CaW wr B bm Pa A c s) {k : Nat} (hk : s.fuel - 1 = k) : CaW (wr.setCell ⟨bm, 1, none⟩ (.int .i64 (k : Int))) B bm Pa A c s.burn := by
  subst hk
  refine ⟨h.blk.set 1 _ (by simp), h.own.off (S := [bm]) ((Off.refl [bm] wr).setCell (p := ⟨bm, 1, none⟩) (by simp) _) (fun y hy => by simp; intro e; subst e; exact h.ap hy), h.ap, by simpa [World.setCell] using h.hB, ?_⟩
  have := h.lim
  show s.marks.length + (s.fuel - 1) ≤ 8192
  omega
/-- A function is remembered. -/
theorem LpI.push {q : Nat × Nat} {k : Int} (h : LpI w0 W B bm rb Pa F f p A0 bb by1 v0 pr pm A c s v1 b bx wr) (hk : BlkL wr q.1 [.int .u8 k, .int .i64 (q.2 : Int)]) (hn : W.heap.size ≤ q.1) (h1 : q.1 ≠ bm ∧ q.1 ≠ rb ∧ q.1 ∉ bkV A) :
    LpI w0 W B bm rb Pa F f p A0 bb by1 v0 pr pm A c s v1 b (q :: bx) wr := by
  refine { h with box := ⟨h.box.r, h.box.m, ?_, ?_⟩, bxn := ?_ }
  · intro z hz
    rcases List.mem_cons.1 hz with rfl | hz
    · exact ⟨k, hk⟩
    · exact h.box.a z hz
  · rintro y (rfl | rfl | ⟨z, hz, rfl⟩)
    · exact h.box.ap _ (Or.inl rfl)
    · exact h.box.ap _ (Or.inr (Or.inl rfl))
    · rcases List.mem_cons.1 hz with rfl | hz
      · exact h1
      · exact h.box.ap _ (Or.inr (Or.inr ⟨z, hz, rfl⟩))
  · rintro y (rfl | rfl | ⟨z, hz, rfl⟩)
    · exact h.bxn _ (Or.inl rfl)
    · exact h.bxn _ (Or.inr (Or.inl rfl))
    · rcases List.mem_cons.1 hz with rfl | hz
      · exact hn
      · exact h.bxn _ (Or.inr (Or.inr ⟨z, hz, rfl⟩))
/-- The panic because of which the run is, is over. -/
theorem LpI.over {z : Nat} (h : LpI w0 W B bm rb Pa F f p A0 (some z) by1 v0 pr pm A c s v1 b bx wr) : LpI w0 W B bm rb Pa F f p A0 (some z) by1 v0 pr pm A c s .nilIface none bx (wr.setCell ⟨z, 1, none⟩ .nilIface) := by
  have hf : Off [z] wr (wr.setCell ⟨z, 1, none⟩ .nilIface) := (Off.refl [z] wr).setCell (p := ⟨z, 1, none⟩) (by simp) _
  have hz := h.bbo z (by simp)
  have hy := h.bbn z (by simp)
  have hbel : Below B wr (wr.setCell ⟨z, 1, none⟩ .nilIface) := hf.below h.m.hB (by intro y hy; simp at hy; subst hy; exact hz.2.2)
  have hl := h.box.lt
  refine ⟨h.g.below h.h6 hbel, h.m.off hf (by simp; exact hz.1.symm) (fun y hq => by simp; intro e; subst e; exact hz.2.1 hq), h.p.below hbel, h.f.below hbel, ?_, ?_, Or.inr rfl, h.bbn, by simp [cbk], ?_, h.bxn, ?_, h.new, h.h6, h.hB, h.hsz⟩
  · exact h.own.off hf (by intro y hq; simp at hq; subst hq; simp; exact hy.1.symm) (by simp [cbk]) (fun y hy => Or.inl hy)
  · obtain ⟨k1, k2, k3, k4, k5, k6⟩ := h.by_
    exact ⟨k1.set 1 _ (by simp), .none, k3, k4, k5, by simp [cbk]⟩
  · have ha : ∀ y, y = pr ∨ y = pm ∨ (∃ q ∈ bx, q.1 = y) → y ∉ [z] := by
      intro y hq
      have := h.bxn y hq
      simp
      omega
    refine ⟨h.box.r.off hf (ha _ (Or.inl rfl)), h.box.m.off hf (ha _ (Or.inr (Or.inl rfl))), fun q hq => ?_, h.box.ap⟩
    obtain ⟨k, hk⟩ := h.box.a q hq
    exact ⟨k, hk.off hf (ha _ (Or.inr (Or.inr ⟨q, hq, rfl⟩)))⟩
  · exact h.off.setCell (p := ⟨z, 1, none⟩) (by simp) _
/-- The run is left. -/
theorem LpI.leave {v2 : Value} {l : Option PanV × CaS} {w' : World} (h : LpI w0 W B bm rb Pa F f p A0 bb by1 v0 pr pm A c s v1 b bx wr) (hv : ∀ y ∈ cbk v2, W.heap.size ≤ y) (hL : LvE w0 wr B bm Pa A rb (ptrO bb) v2 l w') :
    BegE w0 W B bm rb Pa A0 bb by1 v0 ⟨l.1, b, l.2⟩ w' := by
  obtain ⟨A', c', v', k1, k2, k3, k4, k5⟩ := hL
  have hz := h.off.size
  refine ⟨A', c', v', v1, k1, k2, fun y hy => (k3 y hy).elim (hv y) (fun q => by omega), ?_, h.byv, ?_, fun y hy => (k5 y hy).elim (h.new y) (fun q => Or.inr (by omega))⟩
  · refine h.by_.off k4 ?_ ?_ k5
    · intro y hy
      have := h.bbo y hy
      simp only [List.mem_cons, not_or]
      exact ⟨this.1, (h.bbn y hy).1, this.2.1⟩
    · intro y hy
      have := h.cbo y hy
      simp only [List.mem_cons, not_or]
      exact ⟨this.1, (h.cb y hy).1, this.2⟩
  · refine ⟨k4.os.trans h.off.os, k4.tape.trans h.off.tape, k4.output.trans h.off.output, Nat.le_trans h.off.size k4.size, fun k hk hn => ?_⟩
    have e1 : wr.heap[k]? = W.heap[k]? := h.off.block k hk (fun hh => hn (by simp only [List.mem_cons, List.cons_append] at hh ⊢; rcases hh with e | e; exact Or.inl e; exact Or.inr (Or.inr e)))
    rw [← e1]
    refine k4.block k (by omega) (fun hh => ?_)
    simp only [List.mem_cons, List.mem_append, List.cons_append] at hh hn
    rcases hh with rfl | rfl | hh
    · exact hn (Or.inl rfl)
    · exact hn (Or.inr (Or.inl rfl))
    · exact (h.new k hh).elim (fun q => hn (Or.inr (Or.inr (Or.inr q)))) (fun q => by omega)
end
end Go.Proofs.YtifldnkcheobhaaDoor
