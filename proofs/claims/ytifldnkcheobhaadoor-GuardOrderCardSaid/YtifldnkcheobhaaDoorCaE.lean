/- How the deferred functions leave a run: by induction over what is remembered. -/
import Derived.Test.YtifldnkcheobhaaDoorCaD
namespace Go.Proofs.YtifldnkcheobhaaDoor
open Go.RowKit
set_option maxRecDepth 100000
set_option linter.unusedVariables false
set_option maxHeartbeats 4000000

section
variable {w0 w w' : World} {B bm c : Nat} {A A' : Option Addr} {bb : Option Nat} {by0 v o Pa : Value} {b : Option PanV} {S : List Nat}
theorem ByW.off (h : ByW w0 w B bm A bb by0 v b) (hf : Off S w w') (h1 : ∀ y ∈ bb.toList, y ∉ S) (h2 : ∀ y ∈ cbk v, y ∉ S) (hA : ∀ y ∈ bkV A', y ∈ bkV A ∨ w.heap.size ≤ y) : ByW w0 w' B bm A' bb by0 v b := by
  cases bb with
  | none => exact h
  | some rb =>
    obtain ⟨k1, k2, k3, k4, k5, k6⟩ := h
    have hlt := k1.lt
    have hct := k2.lt
    refine ⟨k1.off hf (h1 rb (by simp)), k2.off hf h2, k3, k4, fun hh => (hA _ hh).elim k5 (fun q => by omega), fun y hy => ?_⟩
    obtain ⟨q1, q2, q3, q4⟩ := k6 y hy
    exact ⟨q1, q2, q3, fun hh => (hA _ hh).elim q4 (fun q => by have := hct y hy; omega)⟩
theorem ByW.below (h : ByW w0 w B bm A bb by0 v b) (hf : Below w.heap.size w w') : ByW w0 w' B bm A bb by0 v b :=
  h.off (S := []) (Off.of_below hf) (by simp) (by simp) (fun y hy => Or.inl hy)
def orV (o v : Value) : Value := match o with | .iface T x => .iface T x | _ => v
/-- A panic takes the place of another one. -/
theorem ByW.endW {rb : Nat} {out : Option PanV} {n : Nat} (h : ByW w0 w B bm A (some rb) by0 v b) (ho : CauseR w0 w o out) (hn : B ≤ n ∧ rb < n ∧ bm < n) (hc : ∀ y ∈ cbk o, n ≤ y ∧ y ∉ bkV A) :
    ByW w0 (endW w rb o) B bm A (some rb) by0 (orV o v) (out.or b) := by
  obtain ⟨k1, k2, k3, k4, k5, k6⟩ := h
  have key : ∀ T x, o = .iface T x → ByW w0 (w.setCell ⟨rb, 1, none⟩ (.iface T x)) B bm A (some rb) by0 (.iface T x) out := by
    intro T x e
    subst e
    refine ⟨k1.set 1 _ (by simp), ho.off (S := [rb]) ((Off.refl [rb] w).setCell (p := ⟨rb, 1, none⟩) (by simp) _) (fun y hy => by have := (hc y hy).1; simp; omega), k3, k4, k5, fun y hy => ?_⟩
    have := hc y hy
    exact ⟨by omega, by omega, by omega, this.2⟩
  cases ho with
  | none => exact ⟨k1, k2, k3, k4, k5, k6⟩
  | int n h => exact key _ _ rfl
  | text s n h => exact key _ _ rfl
  | err b n h => exact key _ _ rfl
  | crash b k met h hm hk => exact key _ _ rfl
theorem CaW.endW {s : CaS} {rb : Nat} (h : CaW w B bm Pa A c s) (h1 : rb ≠ bm) (h2 : rb ∉ bkV A) : CaW (endW w rb o) B bm Pa A c s := by
  unfold Go.Proofs.YtifldnkcheobhaaDoor.endW
  split
  · exact h.off (S := [rb]) ((Off.refl [rb] w).setCell (p := ⟨rb, 1, none⟩) (by simp) _) (by simp; exact h1.symm) (fun y hy => by simp; intro e; subst e; exact h2 hy)
  · exact h
theorem Off.endW {rb : Nat} (h : Off S w w') (hr : rb ∈ S) : Off S w (endW w' rb o) := by
  unfold Go.Proofs.YtifldnkcheobhaaDoor.endW
  split
  · exact h.setCell (p := ⟨rb, 1, none⟩) hr _
  · exact h
end
/-- The boxes that the deferred functions hold. -/
structure BoxP (w : World) (bm rb : Nat) (A : Option Addr) (p pm : Nat) (bx : List (Nat × Nat)) : Prop where
  r : BlkL w p [.pointer (some ⟨rb, 0, none⟩)]
  m : BlkL w pm [.pointer (some ⟨bm, 0, none⟩)]
  a : ∀ q ∈ bx, ∃ k : Int, BlkL w q.1 [.int .u8 k, .int .i64 (q.2 : Int)]
  ap : ∀ y, y = p ∨ y = pm ∨ (∃ q ∈ bx, q.1 = y) → y ≠ bm ∧ y ≠ rb ∧ y ∉ bkV A
section
variable {w w' : World} {bm rb p pm : Nat} {A A' : Option Addr} {bx : List (Nat × Nat)}
theorem BoxP.lt (h : BoxP w bm rb A p pm bx) : ∀ y, y = p ∨ y = pm ∨ (∃ q ∈ bx, q.1 = y) → y < w.heap.size := by
  rintro y (rfl | rfl | ⟨q, hq, rfl⟩)
  · exact h.r.lt
  · exact h.m.lt
  · obtain ⟨k, hk⟩ := h.a q hq; exact hk.lt
theorem BoxP.off {S : List Nat} (h : BoxP w bm rb A p pm bx) (hf : Off S w w') (hS : ∀ y ∈ S, y = bm ∨ y = rb ∨ y ∈ bkV A) (hA : ∀ y ∈ bkV A', y ∈ bkV A ∨ w.heap.size ≤ y) : BoxP w' bm rb A' p pm bx := by
  have hn : ∀ y, y = p ∨ y = pm ∨ (∃ q ∈ bx, q.1 = y) → y ∉ S := by
    intro y hy hs
    obtain ⟨k1, k2, k3⟩ := h.ap y hy
    rcases hS y hs with e | e | e
    · exact k1 e
    · exact k2 e
    · exact k3 e
  refine ⟨h.r.off hf (hn p (Or.inl rfl)), h.m.off hf (hn pm (Or.inr (Or.inl rfl))), fun q hq => ?_, fun y hy => ?_⟩
  · obtain ⟨k, hk⟩ := h.a q hq
    exact ⟨k, hk.off hf (hn q.1 (Or.inr (Or.inr ⟨q, hq, rfl⟩)))⟩
  · obtain ⟨k1, k2, k3⟩ := h.ap y hy
    have hl := h.lt y hy
    exact ⟨k1, k2, fun hh => (hA y hh).elim k3 (fun q => by omega)⟩
theorem BoxP.tail {q : Nat × Nat} (h : BoxP w bm rb A p pm (q :: bx)) : BoxP w bm rb A p pm bx :=
  ⟨h.r, h.m, fun q hq => h.a q (by simp [hq]), fun y hy => h.ap y (hy.imp id (fun k => k.imp id (fun ⟨q, hq, e⟩ => ⟨q, by simp [hq], e⟩)))⟩
end
/-- What leaving a run leaves. -/
def LvE (w0 W : World) (B bm : Nat) (Pa : Value) (A : Option Addr) (rb : Nat) (by0 v : Value) (l : Option PanV × CaS) (w' : World) : Prop :=
  ∃ A' c' v', CaW w' B bm Pa A' c' l.2 ∧ ByW w0 w' B bm A' (some rb) by0 v' l.1 ∧ (∀ y ∈ cbk v', y ∈ cbk v ∨ W.heap.size ≤ y) ∧ Off (bm :: rb :: bkV A) W w' ∧ ∀ y ∈ bkV A', y ∈ bkV A ∨ W.heap.size ≤ y
theorem LvE.trans {w0 W w1 w2 : World} {B bm rb : Nat} {Pa by0 v v1 : Value} {A A1 : Option Addr} {l : Option PanV × CaS} (hs : W.heap.size ≤ w1.heap.size) (ho : Off (bm :: rb :: bkV A) W w1)
    (hv : ∀ y ∈ cbk v1, y ∈ cbk v ∨ W.heap.size ≤ y) (hA : ∀ y ∈ bkV A1, y ∈ bkV A ∨ W.heap.size ≤ y) (h : LvE w0 w1 B bm Pa A1 rb by0 v1 l w2) : LvE w0 W B bm Pa A rb by0 v l w2 := by
  obtain ⟨A', c', v', k1, k2, k3, k4, k5⟩ := h
  refine ⟨A', c', v', k1, k2, fun y hy => (k3 y hy).elim (hv y) (fun q => Or.inr (by omega)), ?_, fun y hy => (k5 y hy).elim (hA y) (fun q => Or.inr (by omega))⟩
  refine ⟨k4.os.trans ho.os, k4.tape.trans ho.tape, k4.output.trans ho.output, Nat.le_trans ho.size k4.size, fun k hk hn => ?_⟩
  rw [← ho.block k hk hn]
  refine k4.block k (by omega) (fun hh => ?_)
  simp only [List.mem_cons] at hh hn
  rcases hh with rfl | rfl | hh
  · exact hn (Or.inl rfl)
  · exact hn (Or.inr (Or.inl rfl))
  · exact (hA k hh).elim (fun q => hn (Or.inr (Or.inr q))) (fun q => by omega)
/-- What is deferred. -/
def dfs (p pm : Nat) (bx : List (Nat × Nat)) : List Deferred :=
  bx.map (fun q => { target := .fn (.func 49) #[.pointer (some ⟨p, 0, none⟩), .pointer (some ⟨pm, 0, none⟩), .pointer (some ⟨q.1, 0, none⟩)], args := #[] }) ++ [{ target := .fn (.func 45) #[.pointer (some ⟨p, 0, none⟩)], args := #[] }]
section
variable {w0 : World} {p : List (List ActV)} {d : Nat} {B bm rb pr pm : Nat} {Pa by0 : Value}
/-- One of what is remembered, run; and its panic. -/
theorem run_box (HRun : RunC w0 p d) (h6 : 6 ≤ B) (hB : B ≤ bm) (w : World) (A : Option Addr) (c : Nat) (s : CaS) (v : Value) (cc : Option PanV) (q : Nat × Nat) (bx : List (Nat × Nat)) (k : Int) (hk : BlkL w q.1 [.int .u8 k, .int .i64 (q.2 : Int)])
    (hg : Glb w0 w) (hm : CaW w B bm Pa A c s) (hp : ProgP w B Pa p) (ho : ByW w0 w B bm A (some rb) by0 v cc) (hb : BoxP w bm rb A pr pm (q :: bx)) (hi : q.2 < p.length ∧ p.length ≤ q.2 + d) :
    Calls Tryd.prog 27 #[.pointer (some ⟨bm, 0, none⟩), .int .i64 (q.2 : Int), .pointer (some ⟨rb, 0, none⟩)] w fun e w' => ∃ o, e = .returned o ∧ IfV o ∧ RunE w0 w B bm Pa A (some rb) by0 v (runV p d q.2 cc s) o w' ∧ BlkL w' pr [.pointer (some ⟨rb, 0, none⟩)] ∧ BlkL w' pm [.pointer (some ⟨bm, 0, none⟩)] ∧ BlkL w' q.1 [.int .u8 k, .int .i64 (q.2 : Int)] ∧ ∃ o2, BlkL w' rb [by0, o2] := by
  refine (HRun w B bm c Pa A s q.2 (some rb) by0 v cc hg h6 hB hm hp hi.1 hi.2 ho).mono ?_
  rintro e w' ⟨o, rfl, hE⟩
  have hE' := hE
  obtain ⟨A', c', v', k1, k2, k3, k4, k5, k6, k7⟩ := hE
  have hbo := hb.off (A' := A') k6 (by simp) k7
  have hq : q.1 ∉ (bm :: (some rb).toList ++ bkV A) := by
    obtain ⟨j1, j2, j3⟩ := hb.ap q.1 (Or.inr (Or.inr ⟨q, by simp, rfl⟩))
    simp [j1, j2, j3]
  exact ⟨o, rfl, k2.ifv, hE', hbo.r, hbo.m, hk.off k6 hq, v', k4.1⟩
/-- Behind it. -/
theorem after_run (hB : B ≤ bm) (w w2 : World) (A : Option Addr) (s : CaS) (v o : Value) (cc : Option PanV) (R : RunR) (bx : List (Nat × Nat)) (h6 : 6 ≤ B) (hg : Glb w0 w) (hp : ProgP w B Pa p) (hsz : bm < w.heap.size) (ho : ByW w0 w B bm A (some rb) by0 v cc) (hl : ∀ y ∈ bkV A, B ≤ y)
    (hb : BoxP w bm rb A pr pm bx) (hE : RunE w0 w B bm Pa A (some rb) by0 v R o w2) :
    ∃ A' c' v', Glb w0 (endW w2 rb o) ∧ CaW (endW w2 rb o) B bm Pa A' c' R.st ∧ ProgP (endW w2 rb o) B Pa p ∧ ByW w0 (endW w2 rb o) B bm A' (some rb) by0 v' (R.out.or R.by_) ∧ BoxP (endW w2 rb o) bm rb A' pr pm bx ∧ (∀ y ∈ cbk v', y ∈ cbk v ∨ w.heap.size ≤ y) ∧ Off (bm :: rb :: bkV A) w (endW w2 rb o) ∧ (∀ y ∈ bkV A', y ∈ bkV A ∨ w.heap.size ≤ y) := by
  obtain ⟨A', c', v', k1, k2, k3, k4, k5, k6, k7⟩ := hE
  have hr := ho.1.lt
  have hrB : B ≤ rb := ho.2.2.1
  have hS : Off (bm :: rb :: bkV A) w w2 := k6
  have hS2 : Off (bm :: rb :: bkV A) w (endW w2 rb o) := hS.endW (by simp)
  have hBel : Below B w (endW w2 rb o) := hS2.below (by have := k1.hB; have := ho.2.2.1; omega) (by intro x hx; simp only [List.mem_cons] at hx; rcases hx with rfl | rfl | hx; exact hB; exact hrB; exact hl x hx)
  refine ⟨A', c', orV o v', hg.below h6 hBel, k1.endW k4.2.2.2.1 k4.2.2.2.2.1, hp.below hBel, k4.endW k2 (n := w.heap.size) ⟨by omega, hr, hsz⟩ k3, ?_, ?_, hS2, k7⟩
  · exact hb.off hS2 (by simp) k7
  · intro y hy
    unfold orV at hy
    split at hy
    · exact Or.inr (k3 y hy).1
    · rcases k5 with rfl | rfl
      · exact Or.inl hy
      · simp [cbk] at hy
theorem leaves_ret (HRun : RunC w0 p d) (h6 : 6 ≤ B) (hB : B ≤ bm) {fn : Func} {tmps : Array Value} {R : Ending → World → Prop} (hfn : fn.results = #[]) : ∀ (bx : List (Nat × Nat)) (w : World) (A : Option Addr) (c : Nat) (s : CaS) (v : Value) (cc : Option PanV),
    Glb w0 w → CaW w B bm Pa A c s → ProgP w B Pa p → ByW w0 w B bm A (some rb) by0 v cc → BoxP w bm rb A pr pm bx → (∀ q ∈ bx, q.2 < p.length ∧ p.length ≤ q.2 + d) →
    (∀ w', LvE w0 w B bm Pa A rb by0 v (leaveV (runV p d) (bx.map Prod.snd) cc s) w' → R (.returned (.tuple #[])) w') → Leaves Tryd.prog fn tmps R (dfs pr pm bx) .returning w := by
  intro bx
  induction bx with
  | nil =>
    intro w A c s v cc hg hm hp ho hb hi hR
    refine leaves_cons (f := 45) (args := #[.pointer (some ⟨pr, 0, none⟩)]) (by simp) (by simp [go_sem]) ?_
    refine (begin1_ret w pr rb by0 v hb.r ho.1).mono ?_
    rintro e u' w' ⟨rfl, rfl, rfl⟩
    have hd : endW w.drew rb .nilIface = w.drew := rfl
    rw [hd]
    refine ⟨.tuple #[], by simp [results, hfn], hR _ ?_⟩
    have hbw : Below w.heap.size w w.drew := (Below.refl _ w).drew
    exact ⟨A, c, v, hm.below hbw, ho.below hbw, fun y hy => Or.inl hy, (Off.refl _ w).drew, fun y hy => Or.inl hy⟩
  | cons q bx ih =>
    intro w A c s v cc hg hm hp ho hb hi hR
    obtain ⟨k, hk⟩ := hb.a q (by simp)
    have hq := hb.ap q.1 (Or.inr (Or.inr ⟨q, by simp, rfl⟩))
    have hpp := hb.ap pr (Or.inl rfl)
    have hpm := hb.ap pm (Or.inr (Or.inl rfl))
    have hbw : Below w.heap.size w w.drew.drew := (Below.refl _ w).drew.drew
    have hbB : Below B w w.drew.drew := (Below.refl _ w).drew.drew
    have ho2 := ho.below hbw
    have hm2 := hm.below hbw
    have hlA : ∀ y ∈ bkV A, B ≤ y := fun y hy => (hm.own.lt y hy).1
    have hb2 : BoxP w.drew.drew bm rb A pr pm (q :: bx) := hb.off (S := []) ((Off.refl _ w).drew.drew) (by simp) (fun y hy => Or.inl hy)
    refine leaves_cons (f := 49) (args := #[.pointer (some ⟨pr, 0, none⟩), .pointer (some ⟨pm, 0, none⟩), .pointer (some ⟨q.1, 0, none⟩)]) (by simp) (by simp [go_sem]) ?_
    refine (begin2_ret w pr pm q.1 rb bm k (q.2 : Int) by0 v hb.r hb.m hk ho.1 ⟨hpp.2.1, hpm.2.1, hq.2.1⟩ (RunE w0 w.drew.drew B bm Pa A (some rb) by0 v (runV p d q.2 cc s)) ?_).mono ?_
    · exact run_box HRun h6 hB w.drew.drew A c s v cc q bx k (hk.below hbw) (hg.below h6 hbB) hm2 (hp.below hbB) ho2 hb2 (hi q (by simp))
    · rintro e u' w' ⟨rfl, rfl, o, w2, hE, rfl⟩
      obtain ⟨A', c', v', g1, g2, g3, g4, g5, g6, g7, g8⟩ := after_run (p := p) hB w.drew.drew w2 A s v o cc _ bx h6 (hg.below h6 hbB) (hp.below hbB) hm2.blk.lt ho2 hlA hb2.tail hE
      show Leaves _ _ _ _ _ .returning _
      refine ih (endW w2 rb o) A' c' _ v' _ g1 g2 g3 g4 g5 (fun q hq => hi q (by simp [hq])) (fun w' hL => hR w' ?_)
      refine LvE.trans (w1 := endW w2 rb o) (A1 := A') (v1 := v') ?_ ?_ (fun y hy => g6 y hy) (fun y hy => g8 y hy) hL
      · exact g7.size
      · exact ((Off.refl _ w).drew.drew).trans g7
end
end Go.Proofs.YtifldnkcheobhaaDoor
