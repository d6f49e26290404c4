/- An Epochs of a call's own: its contracts together; a call that is stepped alone. -/
import Derived.Test.YtpjgpiiibgogeaaEpN
import Derived.Test.YtpjgpiiibgogeaaEpL
import Derived.Test.YtpjgpiiibgogeaaAwake2
namespace Go.Proofs.Ytpjgpiiibgogeaa
open Go.RowKit
set_option maxRecDepth 100000
set_option linter.unusedVariables false

structure EpC (w0 w : World) (x W : Nat) (X : List Nat) (k : Nat) (s : EpV) : Prop where
  ex : ∃ b bw wb fv rA rc ring, EpR w w0.heap.size x b bw wb W X k s fv rA rc ring
  bel : Below w0.heap.size w0 w
  inv : InvE W s
  ek : s.E ≤ k
section
variable {w0 w w' : World} {x W k : Nat} {X X' S : List Nat} {s : EpV}
theorem EpC.reX (h : EpC w0 w x W X k s) (hb : Below w.heap.size w w') (hX : ∀ y ∈ X', y ∈ X ∨ (w.heap.size ≤ y ∧ y < w'.heap.size)) : EpC w0 w' x W X' k s := by
  obtain ⟨b, bw, wb, fv, rA, rc, ring, e⟩ := h.ex
  exact ⟨⟨b, bw, wb, fv, rA, rc, ring, e.reX hb hX⟩, h.bel.trans (hb.mono h.bel.size), h.inv, h.ek⟩
theorem EpC.below (h : EpC w0 w x W X k s) (hb : Below w.heap.size w w') : EpC w0 w' x W X k s := h.reX hb (fun y hy => .inl hy)
theorem EpC.weak (h : EpC w0 w x W X k s) (hX : ∀ y ∈ X', y ∈ X) : EpC w0 w x W X' k s := h.reX (Below.refl _ _) (fun y hy => .inl (hX y hy))
theorem EpC.alloc (h : EpC w0 w x W X k s) (o : Obj) : EpC w0 (w.alloc o) x W X k s := h.below ((Below.refl _ _).alloc (Nat.le_refl _) _)
theorem EpC.drew (h : EpC w0 w x W X k s) : EpC w0 w.drew x W X k s := h.below (Below.refl _ _).drew
theorem EpC.newX (h : EpC w0 w x W X k s) (o : Obj) : EpC w0 (w.alloc o) x W (w.heap.size :: X) k s :=
  h.reX ((Below.refl _ _).alloc (Nat.le_refl _) _) (fun y hy => by
    rcases List.mem_cons.1 hy with e | e
    · exact .inr ⟨by omega, by rw [e]; simp⟩
    · exact .inl e)
theorem EpC.hX (h : EpC w0 w x W X k s) : ∀ y ∈ X, y < w.heap.size := by
  obtain ⟨b, bw, wb, fv, rA, rc, ring, e⟩ := h.ex
  exact e.hX
theorem EpC.w64 (h : EpC w0 w x W X k s) : W ≤ 64 := by
  obtain ⟨b, bw, wb, fv, rA, rc, ring, e⟩ := h.ex
  exact e.w64
/-- Stores into blocks that it lies apart from. -/
theorem EpC.putX (h : EpC w0 w x W X k s) (hf : Off S w w') (hS : ∀ y ∈ S, y ∈ X ∧ w0.heap.size ≤ y) : EpC w0 w' x W X k s := by
  obtain ⟨b, bw, wb, fv, rA, rc, ring, e⟩ := h.ex
  exact ⟨⟨b, bw, wb, fv, rA, rc, ring, e.offX hf (fun y hy => (hS y hy).1)⟩, h.bel.trans (hf.below h.bel.size (fun y hy => (hS y hy).2)), h.inv, h.ek⟩
theorem estartC (h : EpC w0 w x W X k s) (i : Nat) (hi : i < W) (op : Nat) (t : Int) (h1 : 1 ≤ op) (h5 : op ≤ 5) (hc : checkE (s.wk i) op = 0) :
    Calls Try.prog 16 #[PV x, IV i, .int .u8 (op : Int), .int .i64 t] w fun e w' => e = .returned (.int .i64 0) ∧ EpC w0 w' x W X k (s.nx i (firstE op t)) ∧ FrX w0.heap.size X w w' := by
  obtain ⟨b, bw, wb, fv, rA, rc, ring, e⟩ := h.ex
  refine (estart_ok e i hi op t h1 h5 hc _ rfl).mono ?_
  rintro e' w' ⟨rfl, ⟨fv', e2⟩, hf⟩
  have hfr := e.fr1 hf
  exact ⟨rfl, ⟨⟨b, bw, wb, fv', rA, rc, ring, e2⟩, h.bel.trans (hfr.below h.bel.size), h.inv.start hi h1 h5 hc t, h.ek⟩, hfr⟩
theorem estartN (h : EpC w0 w x W X k s) (i : Nat) (hi : i < W) (op : Nat) (t : Int) (h1 : 1 ≤ op) (h5 : op ≤ 5) (hc : checkE (s.wk i) op ≠ 0) :
    Calls Try.prog 16 #[PV x, IV i, .int .u8 (op : Int), .int .i64 t] w fun e w' => e = .returned (.int .i64 (checkE (s.wk i) op : Nat)) ∧ EpC w0 w' x W X k s ∧ FrX w0.heap.size X w w' := by
  obtain ⟨b, bw, wb, fv, rA, rc, ring, e⟩ := h.ex
  refine (estart_no e i hi op t h1 h5 hc).mono ?_
  rintro e' w' ⟨rfl, hb⟩
  exact ⟨rfl, h.below hb, FrX.of_below hb⟩
theorem estepC (h : EpC w0 w x W X k s) (hk : k < 2305843009213693952) (i : Nat) (hi : i < W) (hp : isEN (s.wk i).nx = true) (t : StE) (ht : stepE W s i = t) :
    Calls Try.prog 18 #[PV x, IV i] w fun e w' => ∃ A c, e = .returned (.tuple #[.agg #[.bool t.q.d, .int .i64 (t.q.e : Int), .int .i64 t.q.n, .slice A t.q.th.length c], .int .i64 0]) ∧ EpC w0 w' x W (thX A ++ X) (k + 1) (t.s.nx i t.y) ∧ OwnC w' w.heap.size TI 1 A t.q.th.length c (thI t.q.th) ∧ FrX w0.heap.size X w w' := by
  obtain ⟨b, bw, wb, fv, rA, rc, ring, e⟩ := h.ex
  refine (estep_any e h.inv h.ek hk i hi hp).mono ?_
  rintro e' w' ⟨A, c, fv', rA', rc', ring', rfl, e2, ho, hfr⟩
  rw [ht] at e2 ho ⊢
  have hinv := h.inv.step hi hp
  have hE := stepE_E h.inv i
  rw [ht] at hinv hE
  exact ⟨A, c, rfl, ⟨⟨b, bw, wb, fv', rA', rc', ring', e2⟩, h.bel.trans (hfr.below h.bel.size), hinv, by rw [EpV.E_nx]; have := h.ek; omega⟩, ho, hfr⟩
theorem ependC (h : EpC w0 w x W X k s) (i : Nat) (hi : i < W) : Calls Try.prog 22 #[PV x, IV i] w fun e w' => e = .returned (.bool (isEN (s.wk i).nx)) ∧ w = w' := by
  obtain ⟨b, bw, wb, fv, rA, rc, ring, e⟩ := h.ex
  exact epend_any e i hi
theorem epinC (h : EpC w0 w x W X k s) (i : Nat) (hi : i < W) (r : Bool) (hr : ((s.wk i).pin != 0) = r) : Calls Try.prog 24 #[PV x, IV i] w fun e w' => e = .returned (.bool r) ∧ w = w' := by
  obtain ⟨b, bw, wb, fv, rA, rc, ring, e⟩ := h.ex
  exact epin_any e i hi r hr
theorem eepochC (h : EpC w0 w x W X k s) (hk : k < 2305843009213693952) : Calls Try.prog 26 #[PV x] w fun e w' => e = .returned (.int .i64 (s.E : Int)) ∧ w = w' := by
  obtain ⟨b, bw, wb, fv, rA, rc, ring, e⟩ := h.ex
  exact epoch_any e (by have := h.ek; omega)
theorem eheldC (h : EpC w0 w x W X k s) (i : Nat) (hi : i < W) : Calls Try.prog 21 #[PV x, IV i] w (ThE w ((s.wk i).gs.map (·.1))) := by
  obtain ⟨b, bw, wb, fv, rA, rc, ring, e⟩ := h.ex
  exact eheld_any e i hi (h.inv.form i hi).len
theorem enewC (w0 w : World) (hw : Below w0.heap.size w0 w) (n : Nat) (h1 : 1 ≤ n) (h2 : n ≤ 64) : Calls Try.prog 14 #[.int .i64 (n : Int)] w fun e w' => ∃ x, e = .returned (.tuple #[PV x, .int .i64 0]) ∧ EpC w0 w' x n [] 0 (initE n) ∧ w.heap.size ≤ x := by
  refine (enew_ok w n h1 h2).mono ?_
  rintro e w' ⟨x, b, bw, wb, ring, rfl, e, hb⟩
  have hg := e.ge
  have hs := hw.size
  exact ⟨x, rfl, ⟨⟨b, bw, wb, _, _, _, ring, ⟨e.xb, e.m, e.wk, fun j hj => (e.row j hj).lower hs, e.dis, e.rX, e.cl, e.nx, e.nX, e.hX, e.w64, by omega⟩⟩, hw.trans (hb.mono hs), InvE.init n, by rw [initE_E]; omega⟩, hg.1⟩
end
end Go.Proofs.Ytpjgpiiibgogeaa
