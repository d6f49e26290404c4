/- A send on a closed channel, nobody else being there: it panics. -/
import Derived.Test.YtifldnkcheobhaaDoorStu
import Derived.Conc.LoneCalls
namespace Go.Proofs.YtifldnkcheobhaaDoor
open Go.RowKit Go.Conc
set_option maxRecDepth 100000
set_option linter.unusedVariables false
set_option linter.unusedSimpArgs false
set_option maxHeartbeats 4000000

def sndP (P : Program) : List PanicEntry := [{ v := .iface P.rt.plainError (strVal "send on closed channel"), recovered := false }]
theorem step_lone_send_shut {P : Program} {fr : Frame} {cs : List Frame} {w w₁ : World} {es : Array Event} {c cap s r : Nat} {buf : Array Value} {z' v : Value} {tm : Bool}
    (h : stepG P true (G fr cs) w = .comm (G fr cs) #[scase c v z'] true .send w₁ es) (hc : w₁.heap[c]? = some (.chan cap buf true s r tm)) :
    step P (solo (G fr cs) w) = .next (solo (G (fr.raise (sndP P)) cs) w₁) := by
  have hp := partners_alone (c := c) false
  rw [step, stepT_solo rfl]
  simp [runT, solo, G, Array.swapAt!, Array.swapAt, h, GStep.es, communicate, ways, scase, hc, hp, choose, Sem.run, Question.forced, bind, Sem.bind, pure, Goroutine.finishComm, commResult, runtimePanic, goPanic, program, sndP] at h ⊢
theorem wp_send_shut {P : Program} {Q : Exit → Act → World → Prop} {a : Act} {w : World} {id : Nat} {ops : Array Oper} {o0 o1 : Oper} {c cap s r : Nat} {buf : Array Value} {x zz v0 : Value} {tm : Bool}
    (hops : ops = #[o0, o1]) (g0 : o0.guard = none) (g1 : o1.guard = none) (h0 : (execOp a.eval o0).run P w = .ok (.value v0) w)
    (h1 : (execOp (a.put o0.dst v0).eval o1).run P w = .ok (.comm #[scase c x zz] true .send) w) (hc : w.heap[c]? = some (.chan cap buf true s r tm))
    (hQ : Q (.panic (sndP P)) (a.put o0.dst v0) w) : (Code.region id ops false).wp P Q a w := by
  subst hops
  intro b k cs
  have hw0 : Region.wanted o0 (yielded #[o0, o1] a.tmps) = true := by simp [Region.wanted, g0]
  have hw1 : Region.wanted o1 (yielded #[o0, o1] (a.put o0.dst v0).tmps) = true := by simp [Region.wanted, g1]
  have s1 : step P (lone (b.at a (.inRegion #[o0, o1] [0, 1] :: k)) cs w) = .next (lone (b.at (a.put o0.dst v0) (.inRegion #[o0, o1] [1] :: k)) cs w) := by
    refine step_lone_go ?_
    have hg := stepG_op (P := P) (b := b) (a := a) (k := k) (cs := cs) (w := w) (ops := #[o0, o1]) (i := 0) (rest := [1]) (o := o0) (by simp) hw0
    have hfin : (b.at a (.inRegion #[o0, o1] (0 :: [1]) :: k)).finish v0 = b.at (a.put o0.dst v0) (.inRegion #[o0, o1] [1] :: k) := by rw [Frame.finish_at]; rfl
    rw [hg, ← hfin]; simp [stepG.apply, h0]
  have hg := stepG_op (P := P) (b := b) (a := a.put o0.dst v0) (k := k) (cs := cs) (w := w) (ops := #[o0, o1]) (i := 1) (rest := []) (o := o1) (by simp) hw1
  have s2 : step P (lone (b.at (a.put o0.dst v0) (.inRegion #[o0, o1] [1] :: k)) cs w) = .next (lone ((b.at (a.put o0.dst v0) (.inRegion #[o0, o1] [1] :: k)).raise (sndP P)) cs w) := by
    obtain ⟨es, he⟩ : ∃ es, stepG P true (G (b.at (a.put o0.dst v0) (.inRegion #[o0, o1] [1] :: k)) cs) w = .comm (G (b.at (a.put o0.dst v0) (.inRegion #[o0, o1] [1] :: k)) cs) #[scase c x zz] true .send w es := by
      have hg' : stepG P true (G (b.at (a.put o0.dst v0) (.inRegion #[o0, o1] [1] :: k)) cs) w = _ := hg
      rw [hg']
      simp [stepG.apply, h1, G]
      exact ⟨_, rfl⟩
    exact step_lone_send_shut he hc
  refine ⟨.panic (sndP P), a.put o0.dst v0, w, hQ, .inRegion #[o0, o1] [1] :: k, .head step_region (.head s1 (.one ?_))⟩
  rw [← Frame.raise_at]; exact s2
theorem heap_new (w : World) (o : Obj) : (w.alloc o).heap[w.heap.size]? = some o := heap_alloc_new w o
/-- The world with a channel that is closed. -/
def shutW (w : World) : World := { (w.alloc (.chan 1 #[] false 0 0 false)) with heap := (w.alloc (.chan 1 #[] false 0 0 false)).heap.setIfInBounds w.heap.size (.chan 1 #[] true 0 0 false) }
theorem shutW_at (w : World) : (shutW w).heap[w.heap.size]? = some (.chan 1 #[] true 0 0 false) := by
  unfold shutW
  simp
theorem shutW_off (w : World) : Off [] w (shutW w) := by
  refine ⟨rfl, rfl, rfl, by simp [shutW], fun k hk _ => ?_⟩
  unfold shutW
  simp only
  rw [Array.getElem?_setIfInBounds_ne (by omega)]
  exact Below.heap_alloc _ _ _ hk
theorem stu22 (w : World) : Calls Tryd.prog 71 #[.int .u8 22] w (StuE w) := by
  have h1 := mc22 w
  have h2 : (Builtin.close_ #[175] 0 #[.chan (some w.heap.size)]).run Tryd.prog (w.alloc (.chan 1 #[] false 0 0 false)) = .ok (.tuple #[]) (shutW w) := cl1 _ _ (heap_new w _)
  have h3 := cl2 (shutW w) w.heap.size (shutW_at w)
  go_enter Tryd.func71, Tryd.ntmps71
  go_wp2
  exact ⟨rfl, _, rfl, met_plain _, shutW_off w⟩
theorem stu23 (w : World) : Calls Tryd.prog 71 #[.int .u8 23] w (StuE w) := by
  have h1 := mc22 w
  have h2 : (Builtin.close_ #[175] 0 #[.chan (some w.heap.size)]).run Tryd.prog (w.alloc (.chan 1 #[] false 0 0 false)) = .ok (.tuple #[]) (shutW w) := cl1 _ _ (heap_new w _)
  go_enter Tryd.func71, Tryd.ntmps71
  go_upto_region 28 with (fail)
  refine wp_send_shut (c := w.heap.size) (x := .int .i64 1) (zz := .tuple #[]) (v0 := .chan (some w.heap.size)) rfl rfl rfl ?_ ?_ (shutW_at w) ?_
  · rfl
  · rfl
  · exact ⟨rfl, _, rfl, met_plain _, shutW_off w⟩
theorem stu_any (w : World) (k : Nat) (h1 : 14 ≤ k) (h2 : k ≤ 24) : Calls Tryd.prog 71 #[.int .u8 (k : Int)] w (StuE w) := by
  rcases (show k = 14 ∨ k = 15 ∨ k = 16 ∨ k = 17 ∨ k = 18 ∨ k = 19 ∨ k = 20 ∨ k = 21 ∨ k = 22 ∨ k = 23 ∨ k = 24 by omega) with rfl | rfl | rfl | rfl | rfl | rfl | rfl | rfl | rfl | rfl | rfl
  · exact stu14 w
  · exact stu15 w
  · exact stu16 w
  · exact stu17 w
  · exact stu18 w
  · exact stu19 w
  · exact stu20 w
  · exact stu21 w
  · exact stu22 w
  · exact stu23 w
  · exact stu24 w
end Go.Proofs.YtifldnkcheobhaaDoor
