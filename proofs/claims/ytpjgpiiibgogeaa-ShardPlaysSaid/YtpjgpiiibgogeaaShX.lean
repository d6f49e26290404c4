/- Contract: Step of a shard. -/
import Derived.Test.YtpjgpiiibgogeaaShW
import Derived.Laws.EntriesVeiled
namespace Go.Proofs.Ytpjgpiiibgogeaa
open Go.RowKit
set_option maxRecDepth 100000
set_option linter.unusedVariables false

/-- A block that holds an empty result. -/
def ZeroR (w : World) (r : Nat) : Prop := w.heap[r]? = some (.cells #[.bool false, .int .i64 0, .int .i64 0] 79 (0, 0))
theorem ZeroR.new (w : World) : ZeroR (w.alloc (.cells #[.bool false, .int .i64 0, .int .i64 0] 79)) w.heap.size := heap_alloc_new w _
theorem ZeroR.off {w w' : World} {r : Nat} {S : List Nat} (h : ZeroR w r) (hr : r < w.heap.size) (hb : Off S w w') (hs : r ∉ S) : ZeroR w' r := (hb.block r hr hs).trans h
theorem ZeroR.cell {w : World} {r o : Nat} {v : Value} (h : ZeroR w r) (hc : w.cell? ⟨r, o, none⟩ = some v) : v = .bool false ∨ v = .int .i64 0 := by
  have e : w.cell? ⟨r, o, none⟩ = (#[Value.bool false, .int .i64 0, .int .i64 0])[o]? := by
    have h' : w.heap[r]? = _ := h
    simp [World.cell?, h']
  rw [e] at hc
  match o with
  | 0 => left; simpa using hc.symm
  | 1 => right; simpa using hc.symm
  | 2 => right; simpa using hc.symm
  | o + 3 => simp at hc
theorem ZeroR.ne {w : World} {r b o : Nat} {v : Value} (h : ZeroR w r) (hc : w.cell? ⟨b, o, none⟩ = some v) (h1 : v ≠ .bool false) (h2 : v ≠ .int .i64 0) : b ≠ r := by
  rintro rfl
  rcases h.cell hc with e | e
  · exact h1 e
  · exact h2 e
theorem notMem_cons {r b : Nat} {S : List Nat} (h : b ≠ r) (hs : b ∉ S) : b ∉ r :: S := by
  intro hm; rcases List.mem_cons.1 hm with e | e
  · exact h e
  · exact hs e
theorem Apt.zero {w : World} {B r n c : Nat} {A : Option Addr} {zs : List Nat} {S : List Nat} (ha : Apt S A n) (h : Arg w B A n c zs) (hr : ZeroR w r) : Apt (r :: S) A n := by
  intro hn a e hm
  obtain ⟨b, off, e2, hb, hc⟩ := h.at_ hn
  rw [e2] at e; cases e
  rcases List.mem_cons.1 hm with h1 | h1
  · exact hr.ne (hc 0 hn) (by simp) (by simp) h1
  · exact ha hn _ e2 h1
theorem VerA.zero {w : World} {B r n c : Nat} {A : Option Addr} {es : List KV} {S : List Nat} (h : VerA w B S A n c es) (hr : ZeroR w r) : VerA w B (r :: S) A n c es := by
  refine ⟨h.arg, fun hn a e hm => ?_, fun e he => ⟨(h.key e he).1, (h.key e he).2.1.zero (h.key e he).1 hr, (h.key e he).2.2⟩⟩
  obtain ⟨b, off, e2, hb, hc, _⟩ := h.at_ hn
  rw [e2] at e; cases e
  rcases List.mem_cons.1 hm with h1 | h1
  · exact hr.ne hc (by simp) (by simp) h1
  · exact h.apt hn _ e2 h1
theorem NxV.zero {w : World} {s i r : Nat} {S : List Nat} {x : Nx} {f : Value} (h : NxV w s i S x f) (hr : ZeroR w r) (hi : ∀ p, BlkL w p [.int .i64 (i : Int)] → p ≠ r) : NxV w s i (r :: S) x f := by
  cases h with
  | none => exact .none
  | read op ks v p0 p1 p2 kA kn kc ok h0 h1 h2 a0 a1 a2 hk ak ck =>
    exact .read op ks v p0 p1 p2 kA kn kc ok h0 h1 h2 (notMem_cons (hr.ne (h0.cell 0 _ rfl) (by simp) (by simp)) a0) (notMem_cons (hi _ h1) a1) (notMem_cons (hr.ne (h2.cell 0 _ rfl) (by simp) (by simp)) a2) hk (ak.zero hk hr) ck
  | write op ks v num made q p0 p1 p2 p3 p4 p5 kA kn kc A n c es ok h0 h1 h2 h3 h4 h5 a0 a1 a2 a3 a4 a5 hk ak ck hv hm hw hnum =>
    exact .write op ks v num made q p0 p1 p2 p3 p4 p5 kA kn kc A n c es ok h0 h1 h2 h3 h4 h5 (notMem_cons (hr.ne (h0.cell 0 _ rfl) (by simp) (by simp)) a0) (notMem_cons (hi _ h1) a1) (notMem_cons (hr.ne (h2.cell 0 _ rfl) (by simp) (by simp)) a2)
      (notMem_cons (hr.ne (h3.cell 0 _ rfl) (by simp) (by simp)) a3) (notMem_cons (hr.ne (h4.cell 0 _ rfl) (by simp) (by simp)) a4) (notMem_cons (hr.ne (h5.cell 0 _ rfl) (by simp) (by simp)) a5) hk (ak.zero hk hr) ck (hv.zero hr) hm hw hnum
theorem NxV.form {w : World} {s i : Nat} {S : List Nat} {x : Nx} {f : Value} (h : NxV w s i S x f) : f = .nilFunc ∨ ∃ K f1 f2, f = .func K f1 f2 := by
  cases h with
  | none => exact .inl rfl
  | read => exact .inr ⟨_, _, _, rfl⟩
  | write => exact .inr ⟨_, _, _, rfl⟩
/-- A block of one number isn't one with a truth value at its head. -/
theorem ZeroR.int {w : World} {r : Nat} (hr : ZeroR w r) (i : Int) (p : Nat) (h : BlkL w p [.int .i64 i]) : p ≠ r := by
  rintro rfl
  have hc := h.cell 0 _ rfl
  have e : w.cell? ⟨p, 0, none⟩ = (#[Value.bool false, .int .i64 0, .int .i64 0])[0]? := by
    have h' : w.heap[p]? = _ := hr
    simp [World.cell?, h']
  rw [e] at hc
  simp at hc

def StepEnd (w : World) (s b bw : Nat) (X : List Nat) (k v : Nat) (l : List Ent) (nx : Nat → Nx) (q : ResV) (e : Ending) (w' : World) : Prop :=
  e = .returned (.tuple #[.agg #[.bool q.d, .int .i64 q.E, .int .i64 q.N], .int .i64 0]) ∧ ShS w' s b bw X k v l nx ∧ Off [s, b, bw] w w'

set_option maxHeartbeats 6400000 in
theorem step_read (w : World) (s b bw : Nat) (X : List Nat) (k v k' v' n c i : Nat) (A : Option Addr) (es : List KV) (l' : List Ent) (fv : Nat → Value) (nx : Nat → Nx) (ring : List Value) (q : ResV) (y : Nx) (h : ShR w s b bw X k v A n c es fv nx ring) (hi : i < 64) (p0 p1 p2 : Nat)
    (hx : fv i = .func (.func 86) #[] #[.pointer (some ⟨p0, 0, none⟩), .pointer (some ⟨p1, 0, none⟩), .pointer (some ⟨p2, 0, none⟩)]) (HC : Hid (Calls Try.prog 86 #[.pointer (some ⟨p0, 0, none⟩), .pointer (some ⟨p1, 0, none⟩), .pointer (some ⟨p2, 0, none⟩)] (w.alloc (.cells #[.bool false, .int .i64 0, .int .i64 0] 79)) (StEnd (w.alloc (.cells #[.bool false, .int .i64 0, .int .i64 0] 79)) s b bw X k' v' l' fv nx i q y))) :
    Calls Try.prog 39 #[.pointer (some ⟨s, 0, none⟩), .int .i64 (i : Int)] w (StepEnd w s b bw X k' v' l' (updF nx i y) q) := by
  have HW := Lib.hid (sWho_any (w.alloc (.cells #[.bool false, .int .i64 0, .int .i64 0] 79)) i)
  have hb : inB (i : Int) 64 = true := inB_iff.mpr (by omega)
  rw [hb] at HW
  have hcn := h.cn hi
  rw [hx] at hcn
  have hl := h.lts
  have hls := hl.1
  have hcn2 : (w.alloc (.cells #[.bool false, .int .i64 0, .int .i64 0] 79)).cell? ⟨s, 2 + i, none⟩ = some (.func (.func 86) #[] #[.pointer (some ⟨p0, 0, none⟩), .pointer (some ⟨p1, 0, none⟩), .pointer (some ⟨p2, 0, none⟩)]) := (World.cell?_alloc_lt w _ ⟨s, 2 + i, none⟩ hls).trans hcn
  have HP := Lib.hid (sPend_some (w.alloc (.cells #[.bool false, .int .i64 0, .int .i64 0] 79)) s i hi _ _ _ hcn2)
  have HO := Lib.hid h
  have HZ := Lib.hid (ZeroR.new w)
  have HR := Lib.hid (BlkL.new w [.bool false, .int .i64 0, .int .i64 0] 79)
  have hwmX : w.heap.size ∉ (s :: b :: bw :: X) := h.nb
  have hwm : w.heap.size ∉ [s, b, bw] := fun hh => hwmX (by simp only [List.mem_cons, List.not_mem_nil, or_false] at hh ⊢; rcases hh with h | h | h <;> simp [h])
  have HWM := Lib.hid hwm
  have HB := Lib.hid ((Below.refl w.heap.size w).alloc (Nat.le_refl _) (.cells #[.bool false, .int .i64 0, .int .i64 0] 79))
  have hi2 : (i : Int) < 64 := by omega
  have hi3 : (0 : Int) ≤ (i : Int) := by omega
  clear h hx hb hl hwm hwmX hcn
  go_enter Try.func39, Try.ntmps39
  go_wp2_with fail
  with_reducible refine HW.out.mono ?_
  rintro e w1 ⟨rfl, hw⟩
  subst hw
  go_wp2_with fail
  with_reducible refine HP.out.mono ?_
  rintro e w1 ⟨rfl, hw⟩
  subst hw
  go_wp2_with fail
  with_reducible refine HC.out.mono ?_
  rintro e w6 ⟨f, A', n', c', es', ring', rfl, hes, hsr, hnx, hof⟩
  have hz6 := HZ.out.off (by simp) hof HWM.out
  have kr := HR.out.off hof HWM.out
  have hs6 := hof.size
  have hw6 : w.heap.size < w6.heap.size := Nat.lt_of_lt_of_le (by simp) hs6
  have hl6 := hsr.lts.1
  have hc6 := hsr.blk.cell (2 + i) (by omega)
  have hf6 := hsr.blk.froz (2 + i) (by omega)
  rw [shF_next] at hc6
  have r0 := kr.cell 0 _ rfl
  have r1 := kr.cell 1 _ rfl
  have r2 := kr.cell 2 _ rfl
  have z0 := kr.froz 0 (by simp)
  have z1 := kr.froz 1 (by simp)
  have z2 := kr.froz 2 (by simp)
  have hne : w.heap.size ≠ s := fun hh => HWM.out (by simp [hh])
  have HALL := Lib.hid (And.intro hes (And.intro hsr (And.intro hnx (And.intro hof (And.intro hz6 kr)))))
  generalize fv i = fi at hc6
  obtain ⟨qd, qE, qN⟩ := q
  simp only
  have hform := hnx.form
  clear hes hsr hnx hof hz6 kr HW HP hcn2
  rcases hform with rfl | ⟨fK, f1, f2, rfl⟩
  · skip
    go_wp2
    obtain ⟨hes, hsr, hnx, hof, hz6, kr⟩ := HALL.out
    have hb3 := (HO.out.lts)
    have hbk := hsr.blk.set (2 + i) (.nilFunc) (by omega)
    rw [shF_set] at hbk
    have kr1 := kr.other s (2 + i) (.nilFunc) (Ne.symm hne)
    have bz := (kr1.put3 (.bool qd) (.int .i64 qE) (.int .i64 qN)).alloc (.cells #[.bool qd, .int .i64 qE, .int .i64 qN] 79)
    have t0 := bz.cell 0 _ rfl
    have t1 := bz.cell 1 _ rfl
    have t2 := bz.cell 2 _ rfl
    have o1 : Off (w.heap.size :: s :: b :: bw :: X) w6 (w6.setCell ⟨s, 2 + i, none⟩ (.nilFunc)) := (Off.refl _ w6).setCell (p := ⟨s, 2 + i, none⟩) (by simp) _
    have o2 := (o1.put3' (r := w.heap.size) (by simp) (.bool qd) (.int .i64 qE) (.int .i64 qN)).alloc (.cells #[.bool qd, .int .i64 qE, .int .i64 qN] 79)
    have o1m : Off [w.heap.size, s] w6 (w6.setCell ⟨s, 2 + i, none⟩ (.nilFunc)) := (Off.refl _ w6).setCell (p := ⟨s, 2 + i, none⟩) (by simp) _
    have o2m := (o1m.put3' (r := w.heap.size) (by simp) (.bool qd) (.int .i64 qE) (.int .i64 qN)).alloc (.cells #[.bool qd, .int .i64 qE, .int .i64 qN] 79)
    have or := ((Off.refl [w.heap.size] (w6.setCell ⟨s, 2 + i, none⟩ (.nilFunc))).put3' (r := w.heap.size) (by simp) (.bool qd) (.int .i64 qE) (.int .i64 qN)).alloc (.cells #[.bool qd, .int .i64 qE, .int .i64 qN] 79)
    have of0 : Off [s, b, bw] w w6 := (Off.of_below HB.out).trans hof
    have of1 := ((of0.setCell (p := ⟨s, 2 + i, none⟩) (by simp) (.nilFunc)).put3 (r := w.heap.size) (Nat.le_refl _) (.bool qd) (.int .i64 qE) (.int .i64 qN)).alloc (.cells #[.bool qd, .int .i64 qE, .int .i64 qN] 79)
    have hbf := hbk.off or (fun hh => hne (by simp at hh; omega))
    have hmf := hsr.m.off o2m (fun hh => by have h1 := HO.out.ne; simp at hh; omega) (fun hh => by have h1 := HO.out.ne'; simp at hh; omega)
    have hvf := (((hsr.ver.zero hz6).off (Nat.le_refl _) o2).more o2.size).weak (S := (s :: b :: bw :: X)) (fun y hy => List.mem_cons_of_mem _ hy)
    have hnf := ((hnx.zero hz6 (fun p hp => hz6.int _ p hp)).off o2).weak (S := (s :: b :: bw :: X)) (fun y hy => List.mem_cons_of_mem _ hy)
    clear bz r0 r1 r2 z0 z1 z2 hc6 hf6
    refine bodyPost_ret (v := .tuple #[.agg #[.bool qd, .int .i64 qE, .int .i64 qN], .int .i64 0]) (by simp [results, Try.results39, go_sem, t0, t1, t2]) rfl ?_
    refine ⟨rfl, ⟨A', n', c', es', _, ring', hes, ⟨hbf, hmf, hvf, hsr.wf, fun j hj => ?_, hsr.vk, hsr.v1, hsr.ne, hsr.ne', fun x hx => Nat.lt_of_lt_of_le (hsr.hX x hx) o2.size⟩⟩, of1⟩
    by_cases hji : j = i
    · subst hji
      rw [updF_same, updF_same]
      exact hnf
    · rw [updF_other _ _ _ _ hji, updF_other _ _ _ _ hji]
      exact (((hsr.nxv j hj).zero hz6 (fun p hp => hz6.int _ p hp)).off o2).weak (S := (s :: b :: bw :: X)) (fun y hy => List.mem_cons_of_mem _ hy)
  · skip
    go_wp2
    obtain ⟨hes, hsr, hnx, hof, hz6, kr⟩ := HALL.out
    have hb3 := (HO.out.lts)
    have hbk := hsr.blk.set (2 + i) (.func fK f1 f2) (by omega)
    rw [shF_set] at hbk
    have kr1 := kr.other s (2 + i) (.func fK f1 f2) (Ne.symm hne)
    have bz := (kr1.put3 (.bool qd) (.int .i64 qE) (.int .i64 qN)).alloc (.cells #[.bool qd, .int .i64 qE, .int .i64 qN] 79)
    have t0 := bz.cell 0 _ rfl
    have t1 := bz.cell 1 _ rfl
    have t2 := bz.cell 2 _ rfl
    have o1 : Off (w.heap.size :: s :: b :: bw :: X) w6 (w6.setCell ⟨s, 2 + i, none⟩ (.func fK f1 f2)) := (Off.refl _ w6).setCell (p := ⟨s, 2 + i, none⟩) (by simp) _
    have o2 := (o1.put3' (r := w.heap.size) (by simp) (.bool qd) (.int .i64 qE) (.int .i64 qN)).alloc (.cells #[.bool qd, .int .i64 qE, .int .i64 qN] 79)
    have o1m : Off [w.heap.size, s] w6 (w6.setCell ⟨s, 2 + i, none⟩ (.func fK f1 f2)) := (Off.refl _ w6).setCell (p := ⟨s, 2 + i, none⟩) (by simp) _
    have o2m := (o1m.put3' (r := w.heap.size) (by simp) (.bool qd) (.int .i64 qE) (.int .i64 qN)).alloc (.cells #[.bool qd, .int .i64 qE, .int .i64 qN] 79)
    have or := ((Off.refl [w.heap.size] (w6.setCell ⟨s, 2 + i, none⟩ (.func fK f1 f2))).put3' (r := w.heap.size) (by simp) (.bool qd) (.int .i64 qE) (.int .i64 qN)).alloc (.cells #[.bool qd, .int .i64 qE, .int .i64 qN] 79)
    have of0 : Off [s, b, bw] w w6 := (Off.of_below HB.out).trans hof
    have of1 := ((of0.setCell (p := ⟨s, 2 + i, none⟩) (by simp) (.func fK f1 f2)).put3 (r := w.heap.size) (Nat.le_refl _) (.bool qd) (.int .i64 qE) (.int .i64 qN)).alloc (.cells #[.bool qd, .int .i64 qE, .int .i64 qN] 79)
    have hbf := hbk.off or (fun hh => hne (by simp at hh; omega))
    have hmf := hsr.m.off o2m (fun hh => by have h1 := HO.out.ne; simp at hh; omega) (fun hh => by have h1 := HO.out.ne'; simp at hh; omega)
    have hvf := (((hsr.ver.zero hz6).off (Nat.le_refl _) o2).more o2.size).weak (S := (s :: b :: bw :: X)) (fun y hy => List.mem_cons_of_mem _ hy)
    have hnf := ((hnx.zero hz6 (fun p hp => hz6.int _ p hp)).off o2).weak (S := (s :: b :: bw :: X)) (fun y hy => List.mem_cons_of_mem _ hy)
    clear bz r0 r1 r2 z0 z1 z2 hc6 hf6
    refine bodyPost_ret (v := .tuple #[.agg #[.bool qd, .int .i64 qE, .int .i64 qN], .int .i64 0]) (by simp [results, Try.results39, go_sem, t0, t1, t2]) rfl ?_
    refine ⟨rfl, ⟨A', n', c', es', _, ring', hes, ⟨hbf, hmf, hvf, hsr.wf, fun j hj => ?_, hsr.vk, hsr.v1, hsr.ne, hsr.ne', fun x hx => Nat.lt_of_lt_of_le (hsr.hX x hx) o2.size⟩⟩, of1⟩
    by_cases hji : j = i
    · subst hji
      rw [updF_same, updF_same]
      exact hnf
    · rw [updF_other _ _ _ _ hji, updF_other _ _ _ _ hji]
      exact (((hsr.nxv j hj).zero hz6 (fun p hp => hz6.int _ p hp)).off o2).weak (S := (s :: b :: bw :: X)) (fun y hy => List.mem_cons_of_mem _ hy)

set_option maxHeartbeats 6400000 in
theorem step_write (w : World) (s b bw : Nat) (X : List Nat) (k v k' v' n c i : Nat) (A : Option Addr) (es : List KV) (l' : List Ent) (fv : Nat → Value) (nx : Nat → Nx) (ring : List Value) (q : ResV) (y : Nx) (h : ShR w s b bw X k v A n c es fv nx ring) (hi : i < 64) (p0 p1 p2 p3 p4 p5 : Nat)
    (hx : fv i = .func (.func 112) #[] #[.pointer (some ⟨p0, 0, none⟩), .pointer (some ⟨p1, 0, none⟩), .pointer (some ⟨p2, 0, none⟩), .pointer (some ⟨p3, 0, none⟩), .pointer (some ⟨p4, 0, none⟩), .pointer (some ⟨p5, 0, none⟩)]) (HC : Hid (Calls Try.prog 112 #[.pointer (some ⟨p0, 0, none⟩), .pointer (some ⟨p1, 0, none⟩), .pointer (some ⟨p2, 0, none⟩), .pointer (some ⟨p3, 0, none⟩), .pointer (some ⟨p4, 0, none⟩), .pointer (some ⟨p5, 0, none⟩)] (w.alloc (.cells #[.bool false, .int .i64 0, .int .i64 0] 79)) (StEnd (w.alloc (.cells #[.bool false, .int .i64 0, .int .i64 0] 79)) s b bw X k' v' l' fv nx i q y))) :
    Calls Try.prog 39 #[.pointer (some ⟨s, 0, none⟩), .int .i64 (i : Int)] w (StepEnd w s b bw X k' v' l' (updF nx i y) q) := by
  have HW := Lib.hid (sWho_any (w.alloc (.cells #[.bool false, .int .i64 0, .int .i64 0] 79)) i)
  have hb : inB (i : Int) 64 = true := inB_iff.mpr (by omega)
  rw [hb] at HW
  have hcn := h.cn hi
  rw [hx] at hcn
  have hl := h.lts
  have hls := hl.1
  have hcn2 : (w.alloc (.cells #[.bool false, .int .i64 0, .int .i64 0] 79)).cell? ⟨s, 2 + i, none⟩ = some (.func (.func 112) #[] #[.pointer (some ⟨p0, 0, none⟩), .pointer (some ⟨p1, 0, none⟩), .pointer (some ⟨p2, 0, none⟩), .pointer (some ⟨p3, 0, none⟩), .pointer (some ⟨p4, 0, none⟩), .pointer (some ⟨p5, 0, none⟩)]) := (World.cell?_alloc_lt w _ ⟨s, 2 + i, none⟩ hls).trans hcn
  have HP := Lib.hid (sPend_some (w.alloc (.cells #[.bool false, .int .i64 0, .int .i64 0] 79)) s i hi _ _ _ hcn2)
  have HO := Lib.hid h
  have HZ := Lib.hid (ZeroR.new w)
  have HR := Lib.hid (BlkL.new w [.bool false, .int .i64 0, .int .i64 0] 79)
  have hwmX : w.heap.size ∉ (s :: b :: bw :: X) := h.nb
  have hwm : w.heap.size ∉ [s, b, bw] := fun hh => hwmX (by simp only [List.mem_cons, List.not_mem_nil, or_false] at hh ⊢; rcases hh with h | h | h <;> simp [h])
  have HWM := Lib.hid hwm
  have HB := Lib.hid ((Below.refl w.heap.size w).alloc (Nat.le_refl _) (.cells #[.bool false, .int .i64 0, .int .i64 0] 79))
  have hi2 : (i : Int) < 64 := by omega
  have hi3 : (0 : Int) ≤ (i : Int) := by omega
  clear h hx hb hl hwm hwmX hcn
  go_enter Try.func39, Try.ntmps39
  go_wp2_with fail
  with_reducible refine HW.out.mono ?_
  rintro e w1 ⟨rfl, hw⟩
  subst hw
  go_wp2_with fail
  with_reducible refine HP.out.mono ?_
  rintro e w1 ⟨rfl, hw⟩
  subst hw
  go_wp2_with fail
  with_reducible refine HC.out.mono ?_
  rintro e w6 ⟨f, A', n', c', es', ring', rfl, hes, hsr, hnx, hof⟩
  have hz6 := HZ.out.off (by simp) hof HWM.out
  have kr := HR.out.off hof HWM.out
  have hs6 := hof.size
  have hw6 : w.heap.size < w6.heap.size := Nat.lt_of_lt_of_le (by simp) hs6
  have hl6 := hsr.lts.1
  have hc6 := hsr.blk.cell (2 + i) (by omega)
  have hf6 := hsr.blk.froz (2 + i) (by omega)
  rw [shF_next] at hc6
  have r0 := kr.cell 0 _ rfl
  have r1 := kr.cell 1 _ rfl
  have r2 := kr.cell 2 _ rfl
  have z0 := kr.froz 0 (by simp)
  have z1 := kr.froz 1 (by simp)
  have z2 := kr.froz 2 (by simp)
  have hne : w.heap.size ≠ s := fun hh => HWM.out (by simp [hh])
  have HALL := Lib.hid (And.intro hes (And.intro hsr (And.intro hnx (And.intro hof (And.intro hz6 kr)))))
  generalize fv i = fi at hc6
  obtain ⟨qd, qE, qN⟩ := q
  simp only
  have hform := hnx.form
  clear hes hsr hnx hof hz6 kr HW HP hcn2
  rcases hform with rfl | ⟨fK, f1, f2, rfl⟩
  · skip
    go_wp2
    obtain ⟨hes, hsr, hnx, hof, hz6, kr⟩ := HALL.out
    have hb3 := (HO.out.lts)
    have hbk := hsr.blk.set (2 + i) (.nilFunc) (by omega)
    rw [shF_set] at hbk
    have kr1 := kr.other s (2 + i) (.nilFunc) (Ne.symm hne)
    have bz := (kr1.put3 (.bool qd) (.int .i64 qE) (.int .i64 qN)).alloc (.cells #[.bool qd, .int .i64 qE, .int .i64 qN] 79)
    have t0 := bz.cell 0 _ rfl
    have t1 := bz.cell 1 _ rfl
    have t2 := bz.cell 2 _ rfl
    have o1 : Off (w.heap.size :: s :: b :: bw :: X) w6 (w6.setCell ⟨s, 2 + i, none⟩ (.nilFunc)) := (Off.refl _ w6).setCell (p := ⟨s, 2 + i, none⟩) (by simp) _
    have o2 := (o1.put3' (r := w.heap.size) (by simp) (.bool qd) (.int .i64 qE) (.int .i64 qN)).alloc (.cells #[.bool qd, .int .i64 qE, .int .i64 qN] 79)
    have o1m : Off [w.heap.size, s] w6 (w6.setCell ⟨s, 2 + i, none⟩ (.nilFunc)) := (Off.refl _ w6).setCell (p := ⟨s, 2 + i, none⟩) (by simp) _
    have o2m := (o1m.put3' (r := w.heap.size) (by simp) (.bool qd) (.int .i64 qE) (.int .i64 qN)).alloc (.cells #[.bool qd, .int .i64 qE, .int .i64 qN] 79)
    have or := ((Off.refl [w.heap.size] (w6.setCell ⟨s, 2 + i, none⟩ (.nilFunc))).put3' (r := w.heap.size) (by simp) (.bool qd) (.int .i64 qE) (.int .i64 qN)).alloc (.cells #[.bool qd, .int .i64 qE, .int .i64 qN] 79)
    have of0 : Off [s, b, bw] w w6 := (Off.of_below HB.out).trans hof
    have of1 := ((of0.setCell (p := ⟨s, 2 + i, none⟩) (by simp) (.nilFunc)).put3 (r := w.heap.size) (Nat.le_refl _) (.bool qd) (.int .i64 qE) (.int .i64 qN)).alloc (.cells #[.bool qd, .int .i64 qE, .int .i64 qN] 79)
    have hbf := hbk.off or (fun hh => hne (by simp at hh; omega))
    have hmf := hsr.m.off o2m (fun hh => by have h1 := HO.out.ne; simp at hh; omega) (fun hh => by have h1 := HO.out.ne'; simp at hh; omega)
    have hvf := (((hsr.ver.zero hz6).off (Nat.le_refl _) o2).more o2.size).weak (S := (s :: b :: bw :: X)) (fun y hy => List.mem_cons_of_mem _ hy)
    have hnf := ((hnx.zero hz6 (fun p hp => hz6.int _ p hp)).off o2).weak (S := (s :: b :: bw :: X)) (fun y hy => List.mem_cons_of_mem _ hy)
    clear bz r0 r1 r2 z0 z1 z2 hc6 hf6
    refine bodyPost_ret (v := .tuple #[.agg #[.bool qd, .int .i64 qE, .int .i64 qN], .int .i64 0]) (by simp [results, Try.results39, go_sem, t0, t1, t2]) rfl ?_
    refine ⟨rfl, ⟨A', n', c', es', _, ring', hes, ⟨hbf, hmf, hvf, hsr.wf, fun j hj => ?_, hsr.vk, hsr.v1, hsr.ne, hsr.ne', fun x hx => Nat.lt_of_lt_of_le (hsr.hX x hx) o2.size⟩⟩, of1⟩
    by_cases hji : j = i
    · subst hji
      rw [updF_same, updF_same]
      exact hnf
    · rw [updF_other _ _ _ _ hji, updF_other _ _ _ _ hji]
      exact (((hsr.nxv j hj).zero hz6 (fun p hp => hz6.int _ p hp)).off o2).weak (S := (s :: b :: bw :: X)) (fun y hy => List.mem_cons_of_mem _ hy)
  · skip
    go_wp2
    obtain ⟨hes, hsr, hnx, hof, hz6, kr⟩ := HALL.out
    have hb3 := (HO.out.lts)
    have hbk := hsr.blk.set (2 + i) (.func fK f1 f2) (by omega)
    rw [shF_set] at hbk
    have kr1 := kr.other s (2 + i) (.func fK f1 f2) (Ne.symm hne)
    have bz := (kr1.put3 (.bool qd) (.int .i64 qE) (.int .i64 qN)).alloc (.cells #[.bool qd, .int .i64 qE, .int .i64 qN] 79)
    have t0 := bz.cell 0 _ rfl
    have t1 := bz.cell 1 _ rfl
    have t2 := bz.cell 2 _ rfl
    have o1 : Off (w.heap.size :: s :: b :: bw :: X) w6 (w6.setCell ⟨s, 2 + i, none⟩ (.func fK f1 f2)) := (Off.refl _ w6).setCell (p := ⟨s, 2 + i, none⟩) (by simp) _
    have o2 := (o1.put3' (r := w.heap.size) (by simp) (.bool qd) (.int .i64 qE) (.int .i64 qN)).alloc (.cells #[.bool qd, .int .i64 qE, .int .i64 qN] 79)
    have o1m : Off [w.heap.size, s] w6 (w6.setCell ⟨s, 2 + i, none⟩ (.func fK f1 f2)) := (Off.refl _ w6).setCell (p := ⟨s, 2 + i, none⟩) (by simp) _
    have o2m := (o1m.put3' (r := w.heap.size) (by simp) (.bool qd) (.int .i64 qE) (.int .i64 qN)).alloc (.cells #[.bool qd, .int .i64 qE, .int .i64 qN] 79)
    have or := ((Off.refl [w.heap.size] (w6.setCell ⟨s, 2 + i, none⟩ (.func fK f1 f2))).put3' (r := w.heap.size) (by simp) (.bool qd) (.int .i64 qE) (.int .i64 qN)).alloc (.cells #[.bool qd, .int .i64 qE, .int .i64 qN] 79)
    have of0 : Off [s, b, bw] w w6 := (Off.of_below HB.out).trans hof
    have of1 := ((of0.setCell (p := ⟨s, 2 + i, none⟩) (by simp) (.func fK f1 f2)).put3 (r := w.heap.size) (Nat.le_refl _) (.bool qd) (.int .i64 qE) (.int .i64 qN)).alloc (.cells #[.bool qd, .int .i64 qE, .int .i64 qN] 79)
    have hbf := hbk.off or (fun hh => hne (by simp at hh; omega))
    have hmf := hsr.m.off o2m (fun hh => by have h1 := HO.out.ne; simp at hh; omega) (fun hh => by have h1 := HO.out.ne'; simp at hh; omega)
    have hvf := (((hsr.ver.zero hz6).off (Nat.le_refl _) o2).more o2.size).weak (S := (s :: b :: bw :: X)) (fun y hy => List.mem_cons_of_mem _ hy)
    have hnf := ((hnx.zero hz6 (fun p hp => hz6.int _ p hp)).off o2).weak (S := (s :: b :: bw :: X)) (fun y hy => List.mem_cons_of_mem _ hy)
    clear bz r0 r1 r2 z0 z1 z2 hc6 hf6
    refine bodyPost_ret (v := .tuple #[.agg #[.bool qd, .int .i64 qE, .int .i64 qN], .int .i64 0]) (by simp [results, Try.results39, go_sem, t0, t1, t2]) rfl ?_
    refine ⟨rfl, ⟨A', n', c', es', _, ring', hes, ⟨hbf, hmf, hvf, hsr.wf, fun j hj => ?_, hsr.vk, hsr.v1, hsr.ne, hsr.ne', fun x hx => Nat.lt_of_lt_of_le (hsr.hX x hx) o2.size⟩⟩, of1⟩
    by_cases hji : j = i
    · subst hji
      rw [updF_same, updF_same]
      exact hnf
    · rw [updF_other _ _ _ _ hji, updF_other _ _ _ _ hji]
      exact (((hsr.nxv j hj).zero hz6 (fun p hp => hz6.int _ p hp)).off o2).weak (S := (s :: b :: bw :: X)) (fun y hy => List.mem_cons_of_mem _ hy)

end Go.Proofs.Ytpjgpiiibgogeaa
