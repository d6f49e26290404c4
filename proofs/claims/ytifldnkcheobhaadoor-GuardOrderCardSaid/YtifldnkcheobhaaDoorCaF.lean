/- How a run is left by a panic; a function that is called. -/
import Derived.Test.YtifldnkcheobhaaDoorCaE
namespace Go.Proofs.YtifldnkcheobhaaDoor
open Go.RowKit
set_option maxRecDepth 100000
set_option linter.unusedVariables false
set_option maxHeartbeats 4000000

theorem settle_clean (e : PanicEntry) (he : e.recovered = true) (older : List PanicEntry) (h : ∀ q ∈ older, q.goexit = false) : settle (.panicking (e :: older)) = .returning := by
  obtain ⟨v, r, g⟩ := e
  simp only at he
  subst he
  have : older.dropWhile (fun q => !q.goexit) = [] := by
    clear v g
    induction older with
    | nil => rfl
    | cons q l ih => simp [List.dropWhile, h q (by simp)]; exact ih (fun z hz => h z (by simp [hz]))
  simp [settle, this]
section
variable {w0 : World} {p : List (List ActV)} {d : Nat} {B bm rb pr pm : Nat} {Pa by0 : Value}
theorem leaves_pan (HRun : RunC w0 p d) (h6 : 6 ≤ B) (hB : B ≤ bm) {fn : Func} {tmps : Array Value} {R : Ending → World → Prop} (hfn : fn.results = #[]) (bx : List (Nat × Nat)) (w : World) (A : Option Addr) (c : Nat) (s : CaS) (T : TypeId) (x : Value) (pe : PanV) (older : List PanicEntry) (n : Nat)
    (hg : Glb w0 w) (hm : CaW w B bm Pa A c s) (hp : ProgP w B Pa p) (ho : ByW w0 w B bm A (some rb) by0 .nilIface none) (hb : BoxP w bm rb A pr pm bx) (hi : ∀ q ∈ bx, q.2 < p.length ∧ p.length ≤ q.2 + d)
    (hc : CauseR w0 w (.iface T x) (some pe)) (hcn : ∀ y ∈ cbk (.iface T x), n ≤ y ∧ y ∉ bkV A) (hn : B ≤ n ∧ rb < n ∧ bm < n) (hol : ∀ q ∈ older, q.goexit = false)
    (hR : ∀ w', LvE w0 w B bm Pa A rb by0 (.iface T x) (leaveV (runV p d) (bx.map Prod.snd) (some pe) s) w' → R (.returned (.tuple #[])) w') :
    Leaves Tryd.prog fn tmps R (dfs pr pm bx) (.panicking ({ v := .iface T x, recovered := false } :: older)) w := by
  have hlt := ho.1.lt
  have hrB : B ≤ rb := ho.2.2.1
  have hrm : rb ≠ bm := ho.2.2.2.1
  have hrA : rb ∉ bkV A := ho.2.2.2.2.1
  have hlA : ∀ y ∈ bkV A, B ≤ y := fun y hy => (hm.own.lt y hy).1
  have bd : Below w.heap.size w w.drew := (Below.refl _ w).drew
  have od : Off (bm :: rb :: bkV A) w w.drew := (Off.refl _ w).drew
  have O1 : Off (bm :: rb :: bkV A) w (endW w.drew rb (.iface T x)) := od.endW (by simp)
  have B1 : Below B w (endW w.drew rb (.iface T x)) := O1.below (by have := hm.hB; exact this) (by intro y hy; simp only [List.mem_cons] at hy; rcases hy with rfl | rfl | hy; exact hB; exact hrB; exact hlA y hy)
  have m1 : CaW (endW w.drew rb (.iface T x)) B bm Pa A c s := (hm.below bd).endW hrm hrA
  have o1 : ByW w0 (endW w.drew rb (.iface T x)) B bm A (some rb) by0 (.iface T x) (some pe) := by
    have := (ho.below bd).endW (o := .iface T x) (out := some pe) (n := n) (hc.off (S := []) (Off.of_below bd) (by simp)) hn hcn
    exact this
  have b1 : BoxP (endW w.drew rb (.iface T x)) bm rb A pr pm bx := hb.off O1 (by simp) (fun y hy => Or.inl hy)
  cases bx with
  | nil =>
    refine leaves_cons (f := 45) (args := #[.pointer (some ⟨pr, 0, none⟩)]) (by simp) (by simp [go_sem]) ?_
    refine (begin1_pan w pr rb by0 .nilIface T x older hb.r ho.1).mono ?_
    rintro e u' w' ⟨rfl, rfl, rfl⟩
    show Leaves _ _ _ _ _ (settle _) _
    rw [settle_clean _ rfl older hol]
    exact ⟨.tuple #[], by simp [results, hfn], hR _ ⟨A, c, .iface T x, m1, o1, fun y hy => Or.inl hy, O1, fun y hy => Or.inl hy⟩⟩
  | cons q bx =>
    obtain ⟨k, hk⟩ := b1.a q (by simp)
    have hk0 : BlkL w q.1 [.int .u8 k, .int .i64 (q.2 : Int)] := by
      obtain ⟨k', hk'⟩ := hb.a q (by simp)
      have hq := hb.ap q.1 (Or.inr (Or.inr ⟨q, by simp, rfl⟩))
      have := hk'.off O1 (by simp [hq])
      have e := (hk.cell 0 _ rfl).symm.trans (this.cell 0 _ rfl)
      simp only [Option.some.injEq, Value.int.injEq, true_and] at e
      rw [e]; exact hk'
    have hq := hb.ap q.1 (Or.inr (Or.inr ⟨q, by simp, rfl⟩))
    have hpp := hb.ap pr (Or.inl rfl)
    have hpm := hb.ap pm (Or.inr (Or.inl rfl))
    have bd2 : Below (endW w.drew rb (.iface T x)).heap.size (endW w.drew rb (.iface T x)) (endW w.drew rb (.iface T x)).drew := (Below.refl _ _).drew
    have m2 := m1.below bd2
    have o2 := o1.below bd2
    have b2 : BoxP (endW w.drew rb (.iface T x)).drew bm rb A pr pm (q :: bx) := b1.off (S := []) ((Off.refl _ _).drew) (by simp) (fun y hy => Or.inl hy)
    have B2 : Below B w (endW w.drew rb (.iface T x)).drew := B1.drew
    have O2 : Off (bm :: rb :: bkV A) w (endW w.drew rb (.iface T x)).drew := O1.drew
    refine leaves_cons (f := 49) (args := #[.pointer (some ⟨pr, 0, none⟩), .pointer (some ⟨pm, 0, none⟩), .pointer (some ⟨q.1, 0, none⟩)]) (by simp) (by simp [go_sem]) ?_
    refine (begin2_pan w pr pm q.1 rb bm k (q.2 : Int) by0 .nilIface T x older hb.r hb.m hk0 ho.1 ⟨hpp.2.1, hpm.2.1, hq.2.1⟩ (RunE w0 (endW w.drew rb (.iface T x)).drew B bm Pa A (some rb) by0 (.iface T x) (runV p d q.2 (some pe) s)) ?_).mono ?_
    · exact run_box HRun h6 hB (endW w.drew rb (.iface T x)).drew A c s (.iface T x) (some pe) q bx k (hk.below bd2) (hg.below h6 B2) m2 (hp.below B2) o2 b2 (hi q (by simp))
    · rintro e u' w' ⟨rfl, rfl, o, w2, hE, rfl⟩
      obtain ⟨A', c', v', g1, g2, g3, g4, g5, g6, g7, g8⟩ := after_run (p := p) hB (endW w.drew rb (.iface T x)).drew w2 A s (.iface T x) o (some pe) _ bx h6 (hg.below h6 B2) (hp.below B2) m2.blk.lt o2 hlA b2.tail hE
      show Leaves _ _ _ _ _ (settle _) _
      rw [settle_clean _ rfl older hol]
      have hsz : w.heap.size ≤ (endW w.drew rb (.iface T x)).drew.heap.size := O2.size
      refine leaves_ret HRun h6 hB hfn bx (endW w2 rb o) A' c' _ v' _ g1 g2 g3 g4 g5 (fun q hq => hi q (by simp [hq])) (fun w' hL => hR w' ?_)
      exact LvE.trans (w1 := endW w2 rb o) (A1 := A') (v1 := v') (Nat.le_trans hsz g7.size) (O2.trans g7) (fun y hy => (g6 y hy).imp id (fun z => by omega)) (fun y hy => (g8 y hy).imp id (fun z => by omega)) hL
/-- A function that is called. -/
theorem call_any (HRun : RunC w0 p d) (h6 : 6 ≤ B) (hB : B ≤ bm) (w : World) (A : Option Addr) (c : Nat) (s : CaS) (i : Nat) (hg : Glb w0 w) (hm : CaW w B bm Pa A c s) (hp : ProgP w B Pa p) (hi : i < p.length) (hd : p.length ≤ i + d) :
    Calls Tryd.prog 48 #[.pointer (some ⟨bm, 0, none⟩), .int .i64 (i : Int)] w fun e w' => ∃ o, RunE w0 w B bm Pa A none .nilIface .nilIface (runV p d i none s) o w' ∧
      ((o = .nilIface ∧ e = .returned (.tuple #[])) ∨ ∃ T x, o = .iface T x ∧ e = .panicked [{ v := .iface T x, recovered := false }]) := by
  have HC : Hid (Calls Tryd.prog 27 #[.pointer (some ⟨bm, 0, none⟩), .int .i64 (i : Int), .pointer none] w fun e w' => ∃ o, e = .returned o ∧ RunE w0 w B bm Pa A none .nilIface .nilIface (runV p d i none s) o w') := Lib.hid (HRun w B bm c Pa A s i none .nilIface .nilIface none hg h6 hB hm hp hi hd ⟨rfl, rfl⟩)
  have hn1 : ∀ (w : World) (T : TypeId) (x : Value), (binOp BinOp.neq 20 (.iface T x) .nilIface).run Tryd.prog w = .ok (.bool true) w := fun w T x => by kernel_rfl
  have hn2 : ∀ w : World, (binOp BinOp.neq 20 .nilIface .nilIface).run Tryd.prog w = .ok (.bool false) w := fun w => by kernel_rfl
  clear hg hm hp
  go_enter Tryd.func48, Tryd.ntmps48
  go_wp2_with (with_reducible refine HC.out.mono ?_)
  rintro e w1 ⟨o, rfl, hE⟩
  have hE' := Lib.hid hE
  obtain ⟨A', c', v', k1, k2, k3, k4, k5, k6, k7⟩ := hE
  have hv := k2.ifv
  clear k1 k2 k3 k4 k5 k6 k7
  cases hv with
  | nil =>
    go_wp2
    go_end0
    exact ⟨_, hE'.out, Or.inl ⟨rfl, rfl⟩⟩
  | some T x =>
    go_wp2
    exact ⟨rfl, _, hE'.out, Or.inr ⟨T, x, rfl, rfl⟩⟩
end
end Go.Proofs.YtifldnkcheobhaaDoor
