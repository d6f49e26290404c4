/- An Epochs in memory. -/
import Derived.Test.YtpjgpiiibgogeaaEpM
import Derived.Test.YtpjgpiiibgogeaaMaD
namespace Go.Proofs.Ytpjgpiiibgogeaa
open Go.RowKit
set_option maxRecDepth 100000
set_option linter.unusedVariables false

abbrev TG : TypeId := 170
abbrev PV (b : Nat) : Value := .pointer (some ⟨b, 0, none⟩)
abbrev IV (n : Nat) : Value := .int .i64 (n : Int)
abbrev UV (n : Nat) : Value := .int .u64 (n : Int)
def GVc (g : Int × Nat) : List Value := [.int .i64 g.1, .int .i64 (g.2 : Int)]
def GVs (l : List (Int × Nat)) : List Value := l.flatMap GVc
theorem GVs_len (l : List (Int × Nat)) : (GVs l).length = l.length * 2 := by
  induction l with
  | nil => rfl
  | cons a l ih => simp [GVs, GVc] at *; omega
theorem GVs_append (l m : List (Int × Nat)) : GVs (l ++ m) = GVs l ++ GVs m := by simp [GVs]
theorem GVs_at (l : List (Int × Nat)) (i : Nat) (h : i < l.length) : (GVs l)[i * 2]? = some (.int .i64 (l.getD i (0, 0)).1) ∧ (GVs l)[i * 2 + 1]? = some (.int .i64 ((l.getD i (0, 0)).2 : Nat)) := by
  induction l generalizing i with
  | nil => simp at h
  | cons a l ih =>
    cases i with
    | zero => exact ⟨rfl, rfl⟩
    | succ i =>
      obtain ⟨t0, t1⟩ := ih i (by simpa using h)
      refine ⟨?_, ?_⟩
      · rw [show (i + 1) * 2 = i * 2 + 1 + 1 by omega]; exact t0
      · rw [show (i + 1) * 2 + 1 = i * 2 + 1 + 1 + 1 by omega]; exact t1
theorem GVs_one (l : List (Int × Nat)) : ∀ u ∈ GVs l, u.oneCell' = true := by
  intro u hu
  simp only [GVs, List.mem_flatMap, GVc] at hu
  obtain ⟨e, _, he⟩ := hu
  simp only [List.mem_cons, List.not_mem_nil, or_false] at he
  rcases he with rfl | rfl <;> rfl

/-- What a function value that does a call's next access has captured. -/
def capsE (x i : Nat) : EN → Option (Nat × List Value)
  | .none => none
  | .pin => some (96, [PV x, IV i])
  | .mark old e => some (115, [PV x, IV i, UV old, UV e])
  | .confirm e => some (124, [PV x, IV i, UV e])
  | .unpin => some (100, [PV x, IV i])
  | .retire t => some (103, [PV x, IV i, .int .i64 t])
  | .advance => some (104, [PV x, IV i])
  | .look j e => some (117, [PV x, IV i, IV j, UV e])
  | .move e => some (125, [PV x, IV i, UV e])
  | .collect => some (106, [PV x, IV i])
def ClV (w : World) (Q : Nat → Prop) : Option (Nat × List Value) → Value → Prop
  | none, f => f = .nilFunc
  | some (K, vs), f => ∃ ps : List Nat, ps.length = vs.length ∧ f = .func (.func K) #[] (ps.map PV).toArray ∧ ∀ j, j < vs.length → BlkL w (ps.getD j 0) [vs.getD j .nilFunc] ∧ ¬ Q (ps.getD j 0)
section
variable {w w' : World} {Q Q' : Nat → Prop} {o : Option (Nat × List Value)} {f : Value} {S : List Nat} {K : Nat} {v0 v1 v2 v3 : Value}
theorem ClV.off (h : ClV w Q o f) (hb : Off S w w') (hS : ∀ y ∈ S, Q y) : ClV w' Q o f := by
  cases o with
  | none => exact h
  | some p =>
    obtain ⟨ps, h1, h2, h3⟩ := h
    exact ⟨ps, h1, h2, fun j hj => ⟨(h3 j hj).1.off hb (fun hm => (h3 j hj).2 (hS _ hm)), (h3 j hj).2⟩⟩
theorem ClV.weak (h : ClV w Q o f) (hq : ∀ p, p < w.heap.size → Q' p → Q p) : ClV w Q' o f := by
  cases o with
  | none => exact h
  | some p =>
    obtain ⟨ps, h1, h2, h3⟩ := h
    exact ⟨ps, h1, h2, fun j hj => ⟨(h3 j hj).1, fun hm => (h3 j hj).2 (hq _ (h3 j hj).1.lt hm)⟩⟩
theorem ClV.isf (h : ClV w Q o f) : (f = .nilFunc ∧ o = none) ∨ ((∃ K f1 f2, f = .func K f1 f2) ∧ o ≠ none) := by
  cases o with
  | none => exact .inl ⟨h, rfl⟩
  | some p =>
    obtain ⟨ps, h1, h2, h3⟩ := h
    exact .inr ⟨⟨_, _, _, h2⟩, by simp⟩
theorem ClV.cl2 (h : ClV w Q (some (K, [v0, v1])) f) : ∃ p0 p1, f = .func (.func K) #[] #[PV p0, PV p1] ∧ (BlkL w p0 [v0] ∧ ¬ Q p0) ∧ BlkL w p1 [v1] ∧ ¬ Q p1 := by
  obtain ⟨ps, h1, h2, h3⟩ := h
  match ps, h1 with
  | [p0, p1], _ => exact ⟨p0, p1, h2, h3 0 (by simp), h3 1 (by simp)⟩
theorem ClV.cl3 (h : ClV w Q (some (K, [v0, v1, v2])) f) : ∃ p0 p1 p2, f = .func (.func K) #[] #[PV p0, PV p1, PV p2] ∧ (BlkL w p0 [v0] ∧ ¬ Q p0) ∧ (BlkL w p1 [v1] ∧ ¬ Q p1) ∧ BlkL w p2 [v2] ∧ ¬ Q p2 := by
  obtain ⟨ps, h1, h2, h3⟩ := h
  match ps, h1 with
  | [p0, p1, p2], _ => exact ⟨p0, p1, p2, h2, h3 0 (by simp), h3 1 (by simp), h3 2 (by simp)⟩
theorem ClV.cl4 (h : ClV w Q (some (K, [v0, v1, v2, v3])) f) : ∃ p0 p1 p2 p3, f = .func (.func K) #[] #[PV p0, PV p1, PV p2, PV p3] ∧ (BlkL w p0 [v0] ∧ ¬ Q p0) ∧ (BlkL w p1 [v1] ∧ ¬ Q p1) ∧ (BlkL w p2 [v2] ∧ ¬ Q p2) ∧ BlkL w p3 [v3] ∧ ¬ Q p3 := by
  obtain ⟨ps, h1, h2, h3⟩ := h
  match ps, h1 with
  | [p0, p1, p2, p3], _ => exact ⟨p0, p1, p2, p3, h2, h3 0 (by simp), h3 1 (by simp), h3 2 (by simp), h3 3 (by simp)⟩
theorem ClV.mk2 {p0 p1 : Nat} (h0 : BlkL w p0 [v0]) (h1 : BlkL w p1 [v1]) (a0 : ¬ Q p0) (a1 : ¬ Q p1) : ClV w Q (some (K, [v0, v1])) (.func (.func K) #[] #[PV p0, PV p1]) := by
  refine ⟨[p0, p1], rfl, rfl, fun j hj => ?_⟩
  match j, hj with
  | 0, _ => exact ⟨h0, a0⟩
  | 1, _ => exact ⟨h1, a1⟩
theorem ClV.mk3 {p0 p1 p2 : Nat} (h0 : BlkL w p0 [v0]) (h1 : BlkL w p1 [v1]) (h2 : BlkL w p2 [v2]) (a0 : ¬ Q p0) (a1 : ¬ Q p1) (a2 : ¬ Q p2) : ClV w Q (some (K, [v0, v1, v2])) (.func (.func K) #[] #[PV p0, PV p1, PV p2]) := by
  refine ⟨[p0, p1, p2], rfl, rfl, fun j hj => ?_⟩
  match j, hj with
  | 0, _ => exact ⟨h0, a0⟩
  | 1, _ => exact ⟨h1, a1⟩
  | 2, _ => exact ⟨h2, a2⟩
theorem ClV.mk4 {p0 p1 p2 p3 : Nat} (h0 : BlkL w p0 [v0]) (h1 : BlkL w p1 [v1]) (h2 : BlkL w p2 [v2]) (h3 : BlkL w p3 [v3]) (a0 : ¬ Q p0) (a1 : ¬ Q p1) (a2 : ¬ Q p2) (a3 : ¬ Q p3) : ClV w Q (some (K, [v0, v1, v2, v3])) (.func (.func K) #[] #[PV p0, PV p1, PV p2, PV p3]) := by
  refine ⟨[p0, p1, p2, p3], rfl, rfl, fun j hj => ?_⟩
  match j, hj with
  | 0, _ => exact ⟨h0, a0⟩
  | 1, _ => exact ⟨h1, a1⟩
  | 2, _ => exact ⟨h2, a2⟩
  | 3, _ => exact ⟨h3, a3⟩
end
theorem capsE_is (x i : Nat) (y : EN) : isEN y = (capsE x i y).isSome := by cases y <;> rfl

/-- The block of the workers: three cells each. -/
def wkF (fv : Nat → Value) (pn : Nat → Nat) (rA : Nat → Option Addr) (rn rc : Nat → Nat) (j : Nat) : Value :=
  match j % 3 with
  | 0 => fv (j / 3)
  | 1 => UV (pn (j / 3))
  | _ => .slice (rA (j / 3)) (rn (j / 3)) (rc (j / 3))
section
variable {fv : Nat → Value} {pn : Nat → Nat} {rA : Nat → Option Addr} {rn rc : Nat → Nat}
theorem wkF_0 (i : Nat) : wkF fv pn rA rn rc (i * 3) = fv i := by
  unfold wkF; rw [show i * 3 % 3 = 0 by omega, show i * 3 / 3 = i by omega]; rfl
theorem wkF_1 (i : Nat) : wkF fv pn rA rn rc (i * 3 + 1) = UV (pn i) := by
  unfold wkF; rw [show (i * 3 + 1) % 3 = 1 by omega, show (i * 3 + 1) / 3 = i by omega]; rfl
theorem wkF_2 (i : Nat) : wkF fv pn rA rn rc (i * 3 + 2) = .slice (rA i) (rn i) (rc i) := by
  unfold wkF; rw [show (i * 3 + 2) % 3 = 2 by omega, show (i * 3 + 2) / 3 = i by omega]; rfl
theorem wkF_s0 (i : Nat) (f : Value) : updF (wkF fv pn rA rn rc) (i * 3) f = wkF (updF fv i f) pn rA rn rc := by
  funext j
  by_cases h : j = i * 3
  · subst h; rw [updF_same, wkF_0, updF_same]
  · rw [updF_other _ _ _ _ h]
    unfold wkF
    rcases (by omega : j % 3 = 0 ∨ j % 3 = 1 ∨ j % 3 = 2) with e | e | e
    · rw [e]; show fv (j / 3) = updF fv i f (j / 3); rw [updF_other _ _ _ _ (by omega)]
    · rw [e]; rfl
    · rw [e]; rfl
theorem wkF_s1 (i v : Nat) : updF (wkF fv pn rA rn rc) (i * 3 + 1) (UV v) = wkF fv (updF pn i v) rA rn rc := by
  funext j
  by_cases h : j = i * 3 + 1
  · subst h; rw [updF_same, wkF_1, updF_same]
  · rw [updF_other _ _ _ _ h]
    unfold wkF
    rcases (by omega : j % 3 = 0 ∨ j % 3 = 1 ∨ j % 3 = 2) with e | e | e
    · rw [e]; rfl
    · rw [e]; show UV (pn (j / 3)) = UV (updF pn i v (j / 3)); rw [updF_other _ _ _ _ (by omega)]
    · rw [e]; rfl
theorem wkF_s2 (i : Nat) (A : Option Addr) (n c : Nat) : updF (wkF fv pn rA rn rc) (i * 3 + 2) (.slice A n c) = wkF fv pn (updF rA i A) (updF rn i n) (updF rc i c) := by
  funext j
  by_cases h : j = i * 3 + 2
  · subst h; rw [updF_same, wkF_2, updF_same, updF_same, updF_same]
  · rw [updF_other _ _ _ _ h]
    unfold wkF
    rcases (by omega : j % 3 = 0 ∨ j % 3 = 1 ∨ j % 3 = 2) with e | e | e
    · rw [e]; rfl
    · rw [e]; rfl
    · rw [e]; show Value.slice (rA (j / 3)) (rn (j / 3)) (rc (j / 3)) = Value.slice (updF rA i A (j / 3)) (updF rn i n (j / 3)) (updF rc i c (j / 3)); rw [updF_other _ _ _ _ (by omega), updF_other _ _ _ _ (by omega), updF_other _ _ _ _ (by omega)]
end
theorem OwnC.off {w w' : World} {B k n c : Nat} {T : TypeId} {A : Option Addr} {cs : List Value} {S : List Nat} (h : OwnC w B T k A n c cs) (hf : Off S w w') (hS : ∀ a, A = some a → a.block ∉ S) : OwnC w' B T k A n c cs := by
  refine ⟨h.1, ?_⟩
  rcases h.2 with ⟨h1, h2⟩ | ⟨g, cap, cur, h1, h2, h3, h4⟩
  · exact .inl ⟨h1, h2⟩
  · refine .inr ⟨g, cap, cur, h1, h2, ?_, h4⟩
    have hlt : g < w.heap.size := (World.ownsRow.lt h g (by rw [h1]; rfl)).2
    have hA : A = some ⟨g, 0, none⟩ := by injection h1
    exact (hf.block g hlt (hS _ hA)).trans h3
theorem OwnC.lt {w : World} {B k n c : Nat} {T : TypeId} {A : Option Addr} {cs : List Value} (h : OwnC w B T k A n c cs) : ∀ a, A = some a → B ≤ a.block ∧ a.block < w.heap.size := by
  intro a ha
  rcases h.2 with ⟨h1, h2⟩ | ⟨g, cap, cur, h1, h2, h3⟩
  · injection h1 with h1; rw [h1] at ha; cases ha
  · have := World.ownsRow.lt h g (by rw [h1]; rfl)
    injection h1 with h1; rw [h1] at ha; cases ha
    exact this
/-- The blocks that the steps of an Epochs write, or that it must not lie in. -/
def QE (x b bw wb W : Nat) (X : List Nat) (rA : Nat → Option Addr) (p : Nat) : Prop := p ∈ x :: b :: bw :: wb :: X ∨ ∃ j, j < W ∧ ∃ a, rA j = some a ∧ a.block = p
/-- The Epochs at block x: its Mach at b (words in bw; k accesses), its W workers in wb, each one's row; all rows lie from block B on, and apart from the blocks X. -/
structure EpR (w : World) (B x b bw wb W : Nat) (X : List Nat) (k : Nat) (s : EpV) (fv : Nat → Value) (rA : Nat → Option Addr) (rc : Nat → Nat) (ring : List Value) : Prop where
  xb : BlkL w x [PV b, .slice (some ⟨wb, 0, none⟩) W W]
  m : MachS w b bw (W + 1) s.ws 0 k ring
  wk : BlkF w wb (W * 3) (wkF fv (fun j => (s.wk j).pin) rA (fun j => (s.wk j).gs.length) rc)
  row : ∀ j, j < W → OwnC w B TG 2 (rA j) (s.wk j).gs.length (rc j) (GVs (s.wk j).gs)
  dis : ∀ i j, i < W → j < W → i ≠ j → ∀ a a', rA i = some a → rA j = some a' → a.block ≠ a'.block
  rX : ∀ j, j < W → ∀ a, rA j = some a → a.block ∉ x :: b :: bw :: wb :: X
  cl : ∀ j, j < W → ClV w (QE x b bw wb W X rA) (capsE x j (s.wk j).nx) (fv j)
  nx : x ≠ b ∧ x ≠ bw ∧ x ≠ wb ∧ wb ≠ b ∧ wb ≠ bw
  nX : ∀ y ∈ X, y ∉ [x, b, bw, wb]
  hX : ∀ y ∈ X, y < w.heap.size
  w64 : W ≤ 64
  ge : B ≤ x ∧ B ≤ b ∧ B ≤ bw ∧ B ≤ wb
section
variable {w w' : World} {B x b bw wb W : Nat} {X : List Nat} {k : Nat} {s : EpV} {fv : Nat → Value} {rA : Nat → Option Addr} {rc : Nat → Nat} {ring : List Value} {S : List Nat}
theorem EpR.lts (h : EpR w B x b bw wb W X k s fv rA rc ring) : x < w.heap.size ∧ b < w.heap.size ∧ bw < w.heap.size ∧ wb < w.heap.size := ⟨h.xb.lt, h.m.blk.lt, h.m.wd.lt, h.wk.lt⟩
theorem EpR.qlt (h : EpR w B x b bw wb W X k s fv rA rc ring) {p : Nat} (hp : QE x b bw wb W X rA p) : p < w.heap.size := by
  have hl := h.lts
  rcases hp with hp | ⟨j, hj, a, e, rfl⟩
  · simp only [List.mem_cons] at hp
    rcases hp with rfl | rfl | rfl | rfl | hp
    · exact hl.1
    · exact hl.2.1
    · exact hl.2.2.1
    · exact hl.2.2.2
    · exact h.hX _ hp
  · exact ((h.row j hj).lt a e).2
/-- Where only blocks of X, or new ones, have changed. -/
theorem EpR.offX (h : EpR w B x b bw wb W X k s fv rA rc ring) (hb : Off S w w') (hS : ∀ y ∈ S, y ∈ X) : EpR w' B x b bw wb W X k s fv rA rc ring := by
  have hn : ∀ y ∈ S, y ∉ [x, b, bw, wb] := fun y hy => h.nX y (hS y hy)
  have n1 : ∀ z, z ∈ [x, b, bw, wb] → z ∉ S := fun z hz hm => hn z hm hz
  refine ⟨h.xb.off hb (n1 x (by simp)), h.m.off hb (n1 b (by simp)) (n1 bw (by simp)), h.wk.off hb (n1 wb (by simp)), fun j hj => (h.row j hj).off hb (fun a ha hm => h.rX j hj a ha (by have := hS _ hm; simp [this])), h.dis, h.rX, fun j hj => (h.cl j hj).off hb (fun y hy => .inl (by have := hS y hy; simp [this])), h.nx, h.nX, fun y hy => Nat.lt_of_lt_of_le (h.hX y hy) hb.size, h.w64, h.ge⟩
theorem EpR.below (h : EpR w B x b bw wb W X k s fv rA rc ring) (hb : Below w.heap.size w w') : EpR w' B x b bw wb W X k s fv rA rc ring :=
  h.offX (S := []) (Off.of_below hb) (by simp)
theorem EpR.c0 (h : EpR w B x b bw wb W X k s fv rA rc ring) : w.cell? ⟨x, 0, none⟩ = some (PV b) := h.xb.cell 0 _ rfl
theorem EpR.c1 (h : EpR w B x b bw wb W X k s fv rA rc ring) : w.cell? ⟨x, 1, none⟩ = some (.slice (some ⟨wb, 0, none⟩) W W) := h.xb.cell 1 _ rfl
theorem EpR.k0 (h : EpR w B x b bw wb W X k s fv rA rc ring) {i : Nat} (hi : i < W) : w.cell? ⟨wb, i * 3, none⟩ = some (fv i) := by rw [h.wk.cell _ (by omega), wkF_0]
theorem EpR.k1 (h : EpR w B x b bw wb W X k s fv rA rc ring) {i : Nat} (hi : i < W) : w.cell? ⟨wb, i * 3 + 1, none⟩ = some (UV (s.wk i).pin) := by rw [h.wk.cell _ (by omega), wkF_1]
theorem EpR.k2 (h : EpR w B x b bw wb W X k s fv rA rc ring) {i : Nat} (hi : i < W) : w.cell? ⟨wb, i * 3 + 2, none⟩ = some (.slice (rA i) (s.wk i).gs.length (rc i)) := by rw [h.wk.cell _ (by omega), wkF_2]
theorem EpR.fr (h : EpR w B x b bw wb W X k s fv rA rc ring) {i : Nat} (hi : i < W * 3) : w.frozen? ⟨wb, i, none⟩ = false := h.wk.froz i hi
/-- Behind an access of the Mach. -/
theorem EpR.mach {ws' : List Nat} {k' : Nat} {ring' : List Value} (h : EpR w B x b bw wb W X k s fv rA rc ring) (hm : MachS w' b bw (W + 1) ws' 0 k' ring') (hb : Off [b, bw] w w') : EpR w' B x b bw wb W X k' { s with ws := ws' } fv rA rc ring' := by
  obtain ⟨n1, n2, n3, n4, n5⟩ := h.nx
  refine ⟨h.xb.off hb (by simp [n1, n2]), hm, h.wk.off hb (by simp [n4, n5]), fun j hj => (h.row j hj).off hb (fun a ha hm => h.rX j hj a ha (by simp only [List.mem_cons, List.not_mem_nil, or_false] at hm ⊢; rcases hm with e | e <;> simp [e])), h.dis, h.rX, fun j hj => (h.cl j hj).off hb (fun y hy => .inl (by simp only [List.mem_cons, List.not_mem_nil, or_false] at hy ⊢; rcases hy with e | e <;> simp [e])), h.nx, h.nX, fun y hy => Nat.lt_of_lt_of_le (h.hX y hy) hb.size, h.w64, h.ge⟩
theorem EpR.setCellW (h : EpR w B x b bw wb W X k s fv rA rc ring) (o : Nat) (u : Value) : Off [wb] w (w.setCell ⟨wb, o, none⟩ u) := (Off.refl _ _).setCell (by simp) _
theorem EpR.setPin (h : EpR w B x b bw wb W X k s fv rA rc ring) {i : Nat} (hi : i < W) (v : Nat) : EpR (w.setCell ⟨wb, i * 3 + 1, none⟩ (UV v)) B x b bw wb W X k (s.setK i { s.wk i with pin := v }) fv rA rc ring := by
  obtain ⟨n1, n2, n3, n4, n5⟩ := h.nx
  have hb := h.setCellW (i * 3 + 1) (UV v)
  have e1 : (fun j => (((s.setK i { s.wk i with pin := v }).wk j).pin)) = updF (fun j => (s.wk j).pin) i v := by
    funext j; simp only [EpV.setK]
    by_cases e : j = i
    · subst e; rw [updF_same, updF_same]
    · rw [updF_other _ _ _ _ e, updF_other _ _ _ _ e]
  have e2 : ∀ j, ((s.setK i { s.wk i with pin := v }).wk j).gs = (s.wk j).gs := by
    intro j; simp only [EpV.setK]
    by_cases e : j = i
    · subst e; rw [updF_same]
    · rw [updF_other _ _ _ _ e]
  have e3 : ∀ j, ((s.setK i { s.wk i with pin := v }).wk j).nx = (s.wk j).nx := by
    intro j; simp only [EpV.setK]
    by_cases e : j = i
    · subst e; rw [updF_same]
    · rw [updF_other _ _ _ _ e]
  refine ⟨h.xb.off hb (by simpa using n3), h.m.off hb (by simpa using Ne.symm n4) (by simpa using Ne.symm n5), ?_, fun j hj => ?_, h.dis, h.rX, fun j hj => ?_, h.nx, h.nX, fun y hy => Nat.lt_of_lt_of_le (h.hX y hy) hb.size, h.w64, h.ge⟩
  · rw [e1]; simp only [e2]; rw [← wkF_s1]; exact h.wk.set _ _ (by omega)
  · rw [e2]; exact (h.row j hj).off hb (fun a ha hm => h.rX j hj a ha (by simp only [List.mem_cons, List.not_mem_nil, or_false] at hm; simp [hm]))
  · rw [e3]; exact (h.cl j hj).off hb (fun y hy => .inl (by simp only [List.mem_cons, List.not_mem_nil, or_false] at hy; simp [hy]))
theorem EpR.setNext (h : EpR w B x b bw wb W X k s fv rA rc ring) {i : Nat} (hi : i < W) {y : EN} {f : Value} (hf : ClV w (QE x b bw wb W X rA) (capsE x i y) f) : EpR (w.setCell ⟨wb, i * 3, none⟩ f) B x b bw wb W X k (s.nx i y) (updF fv i f) rA rc ring := by
  obtain ⟨n1, n2, n3, n4, n5⟩ := h.nx
  have hb := h.setCellW (i * 3) f
  have e1 : ∀ j, ((s.nx i y).wk j).pin = (s.wk j).pin := by
    intro j; simp only [EpV.nx, EpV.setK]
    by_cases e : j = i
    · subst e; rw [updF_same]
    · rw [updF_other _ _ _ _ e]
  have e2 : ∀ j, ((s.nx i y).wk j).gs = (s.wk j).gs := by
    intro j; simp only [EpV.nx, EpV.setK]
    by_cases e : j = i
    · subst e; rw [updF_same]
    · rw [updF_other _ _ _ _ e]
  have hq : ∀ y ∈ [wb], QE x b bw wb W X rA y := fun y hy => .inl (by simp only [List.mem_cons, List.not_mem_nil, or_false] at hy; simp [hy])
  refine ⟨h.xb.off hb (by simpa using n3), h.m.off hb (by simpa using Ne.symm n4) (by simpa using Ne.symm n5), ?_, fun j hj => ?_, h.dis, h.rX, fun j hj => ?_, h.nx, h.nX, fun y hy => Nat.lt_of_lt_of_le (h.hX y hy) hb.size, h.w64, h.ge⟩
  · simp only [e1, e2]; rw [← wkF_s0]; exact h.wk.set _ _ (by omega)
  · rw [e2]; exact (h.row j hj).off hb (fun a ha hm => h.rX j hj a ha (by simp only [List.mem_cons, List.not_mem_nil, or_false] at hm; simp [hm]))
  · by_cases e : j = i
    · subst e; simp only [EpV.nx, EpV.setK]; rw [updF_same, updF_same]; exact hf.off hb hq
    · simp only [EpV.nx, EpV.setK]; rw [updF_other _ _ _ _ e, updF_other _ _ _ _ e]; exact (h.cl j hj).off hb hq
/-- Another row: it has grown in its place, or lies in a new block. -/
theorem EpR.setRow (h : EpR w B x b bw wb W X k s fv rA rc ring) {i : Nat} (hi : i < W) {A : Option Addr} {c : Nat} {gs : List (Int × Nat)} (hf : Off S w w') (hS : ∀ y ∈ S, ∃ a, rA i = some a ∧ a.block = y)
    (hA : ∀ a, A = some a → (∃ a', rA i = some a' ∧ a'.block = a.block) ∨ w.heap.size ≤ a.block) (ho : OwnC w' B TG 2 A gs.length c (GVs gs)) :
    EpR (w'.setCell ⟨wb, i * 3 + 2, none⟩ (.slice A gs.length c)) B x b bw wb W X k (s.setK i { s.wk i with gs := gs }) fv (updF rA i A) (updF rc i c) ring := by
  obtain ⟨n1, n2, n3, n4, n5⟩ := h.nx
  have hq : ∀ y ∈ S, y ∉ x :: b :: bw :: wb :: X := fun y hy hm => by
    obtain ⟨a, e, rfl⟩ := hS y hy
    exact h.rX i hi a e hm
  have n1' : ∀ z, z ∈ x :: b :: bw :: wb :: X → z ∉ S := fun z hz hm => hq z hm hz
  have hb2 : Off [wb] w' (w'.setCell ⟨wb, i * 3 + 2, none⟩ (.slice A gs.length c)) := (Off.refl _ _).setCell (by simp) _
  have hQ : ∀ p, p < w.heap.size → QE x b bw wb W X (updF rA i A) p → QE x b bw wb W X rA p := by
    intro p hp hm
    rcases hm with hm | ⟨j, hj, a, e, rfl⟩
    · exact .inl hm
    · by_cases eji : j = i
      · subst eji
        rw [updF_same] at e
        rcases hA a e with ⟨a', e1, e2⟩ | h1
        · exact .inr ⟨j, hj, a', e1, e2⟩
        · omega
      · rw [updF_other _ _ _ _ eji] at e
        exact .inr ⟨j, hj, a, e, rfl⟩
  have e1 : ∀ j, ((s.setK i { s.wk i with gs := gs }).wk j).pin = (s.wk j).pin := by
    intro j; simp only [EpV.setK]
    by_cases e : j = i
    · subst e; rw [updF_same]
    · rw [updF_other _ _ _ _ e]
  have e3 : ∀ j, ((s.setK i { s.wk i with gs := gs }).wk j).nx = (s.wk j).nx := by
    intro j; simp only [EpV.setK]
    by_cases e : j = i
    · subst e; rw [updF_same]
    · rw [updF_other _ _ _ _ e]
  have e2 : (fun j => ((s.setK i { s.wk i with gs := gs }).wk j).gs.length) = updF (fun j => (s.wk j).gs.length) i gs.length := by
    funext j; simp only [EpV.setK]
    by_cases e : j = i
    · subst e; rw [updF_same, updF_same]
    · rw [updF_other _ _ _ _ e, updF_other _ _ _ _ e]
  have rXn : ∀ j, j < W → ∀ a, updF rA i A j = some a → a.block ∉ x :: b :: bw :: wb :: X := by
    intro j hj a e
    by_cases eji : j = i
    · subst eji
      rw [updF_same] at e
      rcases hA a e with ⟨a', e1, e2⟩ | h1
      · rw [← e2]; exact h.rX j hj a' e1
      · intro hm; have := h.qlt (.inl hm); omega
    · rw [updF_other _ _ _ _ eji] at e
      exact h.rX j hj a e
  refine ⟨(h.xb.off hf (n1' x (by simp))).off hb2 (by simpa using n3), (h.m.off hf (n1' b (by simp)) (n1' bw (by simp))).off hb2 (by simpa using Ne.symm n4) (by simpa using Ne.symm n5), ?_, fun j hj => ?_, fun p q hp hq' hpq a a' ea ea' => ?_, rXn, fun j hj => ?_, h.nx, h.nX, fun y hy => ?_, h.w64, h.ge⟩
  · rw [e2]; simp only [e1]; rw [← wkF_s2]; exact (h.wk.off hf (n1' wb (by simp))).set _ _ (by omega)
  · by_cases eji : j = i
    · subst eji
      simp only [EpV.setK]; rw [updF_same, updF_same, updF_same]
      exact ho.off hb2 (fun a ha hm => rXn j hj a (by rw [updF_same]; exact ha) (by simp only [List.mem_cons, List.not_mem_nil, or_false] at hm; simp [hm]))
    · simp only [EpV.setK]; rw [updF_other _ _ _ _ eji, updF_other _ _ _ _ eji, updF_other _ _ _ _ eji]
      refine ((h.row j hj).off hf (fun a ha hm => ?_)).off hb2 (fun a ha hm => h.rX j hj a ha (by simp only [List.mem_cons, List.not_mem_nil, or_false] at hm; simp [hm]))
      obtain ⟨a', e', e''⟩ := hS _ hm
      exact h.dis i j hi hj (Ne.symm eji) a' a e' ha e''
  · by_cases epi : p = i
    · subst epi
      rw [updF_same] at ea
      rw [updF_other _ _ _ _ (Ne.symm hpq)] at ea'
      rcases hA a ea with ⟨a1, e1, e2⟩ | h1
      · rw [← e2]; exact h.dis p q hp hq' hpq a1 a' e1 ea'
      · have := ((h.row q hq').lt a' ea').2; omega
    · rw [updF_other _ _ _ _ epi] at ea
      by_cases eqi : q = i
      · subst eqi
        rw [updF_same] at ea'
        rcases hA a' ea' with ⟨a1, e1, e2⟩ | h1
        · rw [← e2]; exact h.dis p q hp hq' hpq a a1 ea e1
        · have := ((h.row p hp).lt a ea).2; omega
      · rw [updF_other _ _ _ _ eqi] at ea'
        exact h.dis p q hp hq' hpq a a' ea ea'
  · rw [e3]
    have hcl := (h.cl j hj).off hf (fun y hy => by obtain ⟨a, e, e2⟩ := hS y hy; exact .inr ⟨i, hi, a, e, e2⟩)
    have hcl2 : ClV w' (QE x b bw wb W X (updF rA i A)) (capsE x j (s.wk j).nx) (fv j) := by
      have hc0 := h.cl j hj
      generalize capsE x j (s.wk j).nx = o at *
      cases o with
      | none => exact hcl
      | some p =>
        obtain ⟨ps, h1, h2, h3⟩ := hc0
        exact ⟨ps, h1, h2, fun t ht => ⟨(h3 t ht).1.off hf (fun hm => by obtain ⟨a, e, e2⟩ := hS _ hm; exact (h3 t ht).2 (.inr ⟨i, hi, a, e, e2⟩)), fun hm => (h3 t ht).2 (hQ _ (h3 t ht).1.lt hm)⟩⟩
    exact hcl2.off hb2 (fun y hy => .inl (by simp only [List.mem_cons, List.not_mem_nil, or_false] at hy; simp [hy]))
  · have := h.hX y hy
    have := hf.size
    have := hb2.size
    omega
end
end Go.Proofs.Ytpjgpiiibgogeaa
