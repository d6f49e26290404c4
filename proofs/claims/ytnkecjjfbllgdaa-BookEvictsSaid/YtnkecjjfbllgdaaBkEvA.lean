/- BookEvicts: two books side by side; what is idle is nothing; the walk. -/
import Derived.Test.YtnkecjjfbllgdaaBkCl
import Derived.Deep.DeepCutAuto

/- Two books side by side. -/
namespace Go.Proofs.Ytnkecjjfbllgdaa
open Go.RowKit Go.Maps
set_option maxRecDepth 100000
set_option linter.unusedVariables false

theorem get_after_ne {M : BkMap} {z1 z2 : List Nat} (X : OutM) (h : z2 ≠ z1) : getB (afterB M z1 X) z2 = getB M z2 := by
  unfold afterB
  split
  · unfold getB putB
    rw [if_neg h]
  · rfl
theorem after_comm (M : BkMap) {z1 z2 : List Nat} (X Y : OutM) (h : z1 ≠ z2) : afterB (afterB M z1 X) z2 Y = afterB (afterB M z2 Y) z1 X := by
  unfold afterB
  cases X.2.2 <;> cases Y.2.2 <;> simp only [if_true, Bool.false_eq_true, if_false]
  funext z
  unfold putB
  by_cases e1 : z = z1
  · rw [if_neg (fun e => h (e1.symm.trans e)), if_pos e1, if_pos e1]
  · by_cases e2 : z = z2
    · rw [if_pos e2, if_neg e1, if_pos e2]
    · rw [if_neg e2, if_neg e1, if_neg e1, if_neg e2]
theorem neqRepX (a b c d e : Int) (g : Bool) (w : World) : (binOp .neq 42 (.agg #[.int .i64 a, .bool g, .int .i64 b, .int .i64 c, .int .i64 d, .int .i64 e]) (.agg #[.int .i64 a, .bool g, .int .i64 b, .int .i64 c, .int .i64 d, .int .i64 e])).run Try.prog w = .ok (.bool false) w := by simp [go_sem, Result.andThen]
/-- Where two books with the same cells stand. -/
structure SwR (w0 w : World) (xa xb ma mb : Nat) (A1 A2 : Option Addr) (c1 c2 j : Nat) : Prop where
  low : Below w0.heap.size w0 w
  ne : ma ≠ mb
  ga : w0.heap.size ≤ ma
  gb : w0.heap.size ≤ mb
  st : ∃ k M, BkX w xa A1 2 c1 tabL 4096 ma k M ∧ BkX w xb A2 2 c2 tabL 4096 mb k M ∧ k ≤ j
/-- A book of two, in a region: what the other one, and the call's box, keep. -/
structure SwZ (w6 W : World) (xa xb ma mb : Nat) (A1 A2 : Option Addr) (c1 c2 : Nat) (q : Nat) (ls : List Value) (ka kb : Nat) (Ma Mb : BkMap) : Prop where
  off : Off [ma, mb] w6 W
  blk : BlkL W q ls
  a : BkX W xa A1 2 c1 tabL 4096 ma ka Ma
  b : BkX W xb A2 2 c2 tabL 4096 mb kb Mb
theorem SwZ.drew {w6 W : World} {xa xb ma mb : Nat} {A1 A2 : Option Addr} {c1 c2 q ka kb : Nat} {ls : List Value} {Ma Mb : BkMap} (h : SwZ w6 W xa xb ma mb A1 A2 c1 c2 q ls ka kb Ma Mb) : SwZ w6 W.drew xa xb ma mb A1 A2 c1 c2 q ls ka kb Ma Mb :=
  ⟨h.off.drew, h.blk.drew, h.a.below (Below.refl _ _).drew, h.b.below (Below.refl _ _).drew⟩
theorem bkx_map {w : World} {b n c room mb k : Nat} {A : Option Addr} {l : List PolM} {M : BkMap} (h : BkX w b A n c l room mb k M) : ∃ es ck, w.heap[mb]? = some (.map es ck) := by
  obtain ⟨D, hd1, _⟩ := h.e
  exact own_map hd1
section
variable {w6 W : World} {xa xb ma mb : Nat} {A1 A2 : Option Addr} {c1 c2 q ka kb : Nat} {ls : List Value} {Ma Mb : BkMap}
theorem SwZ.doA (h : SwZ w6 W xa xb ma mb A1 A2 c1 c2 q ls ka kb Ma Mb) (hne : ma ≠ mb) (h0 : ls[0]? ≠ none) (v : FitV) (hv : v.ok) (now : Nat) (hnow : now ≤ 4611686018427387903) (hkey : Arg W W.heap.size v.A v.m v.c v.zs) (hk : ka ≤ 4000) :
    Calls Try.prog 18 #[.pointer (some ⟨xa, 0, none⟩), .agg #[.int .u8 (v.o : Nat), .int .i64 (v.p : Nat), .slice v.A v.m v.c, .int .i64 v.N], .int .i64 (now : Nat), .int .i64 v.s] W
      fun e w' => ∃ (k' : Nat), e = .returned (repX (repF tabL Ma v.o v.p v.zs v.N now v.s ka k')) ∧ SwZ w6 w' xa xb ma mb A1 A2 c1 c2 q ls k' kb (actM tabL Ma v.o v.p v.zs v.N now v.s) Mb ∧ k' ≤ ka + 1 := by
  refine (do_abs h.a v hv rfl rfl rfl now hnow hkey (by omega) (fun _ => .inr (by omega))).mono ?_
  rintro e w' ⟨k', he, hb, hk', ho⟩
  obtain ⟨es, ck, hm⟩ := bkx_map h.a
  obtain ⟨u, hu⟩ := Option.ne_none_iff_exists'.1 h0
  exact ⟨k', he, ⟨h.off.trans (ho.mono (by simp)), h.blk.off ho (by simpa using cell_ne_map (p := ⟨q, 0, none⟩) (h.blk.cell 0 _ hu) hm), hb, h.b.other hm (Ne.symm hne) ho⟩, hk'⟩
theorem SwZ.doB (h : SwZ w6 W xa xb ma mb A1 A2 c1 c2 q ls ka kb Ma Mb) (hne : ma ≠ mb) (h0 : ls[0]? ≠ none) (v : FitV) (hv : v.ok) (now : Nat) (hnow : now ≤ 4611686018427387903) (hkey : Arg W W.heap.size v.A v.m v.c v.zs) (hk : kb ≤ 4000) :
    Calls Try.prog 18 #[.pointer (some ⟨xb, 0, none⟩), .agg #[.int .u8 (v.o : Nat), .int .i64 (v.p : Nat), .slice v.A v.m v.c, .int .i64 v.N], .int .i64 (now : Nat), .int .i64 v.s] W
      fun e w' => ∃ (k' : Nat), e = .returned (repX (repF tabL Mb v.o v.p v.zs v.N now v.s kb k')) ∧ SwZ w6 w' xa xb ma mb A1 A2 c1 c2 q ls ka k' Ma (actM tabL Mb v.o v.p v.zs v.N now v.s) ∧ k' ≤ kb + 1 := by
  refine (do_abs h.b v hv rfl rfl rfl now hnow hkey (by omega) (fun _ => .inr (by omega))).mono ?_
  rintro e w' ⟨k', he, hb, hk', ho⟩
  obtain ⟨es, ck, hm⟩ := bkx_map h.b
  obtain ⟨u, hu⟩ := Option.ne_none_iff_exists'.1 h0
  exact ⟨k', he, ⟨h.off.trans (ho.mono (by simp)), h.blk.off ho (by simpa using cell_ne_map (p := ⟨q, 0, none⟩) (h.blk.cell 0 _ hu) hm), h.a.other hm hne ho, hb⟩, hk'⟩
end
theorem SwZ.below {w6 W W' : World} {xa xb ma mb : Nat} {A1 A2 : Option Addr} {c1 c2 q ka kb : Nat} {ls : List Value} {Ma Mb : BkMap} (h : SwZ w6 W xa xb ma mb A1 A2 c1 c2 q ls ka kb Ma Mb) (hb : Below W.heap.size W W') : SwZ w6 W' xa xb ma mb A1 A2 c1 c2 q ls ka kb Ma Mb :=
  ⟨h.off.trans (Off.of_below hb), h.blk.below hb, h.a.below hb, h.b.below hb⟩
theorem repF_lt {l : List PolM} {M : BkMap} {o p : Nat} {zs : List Nat} {N : Int} {now : Nat} {s : Int} (k k' : Nat) (h : o < 5) : repF l M o p zs N now s k k' = (cellM (l.getD p noPol) (getB M (p :: zs)) o N now s).1 := by
  unfold repF; rw [if_pos (by omega)]
/-- The two calls in their boxes. -/
structure SwP (w0 W : World) (lx ly : List Value) : Prop where
  b : Below w0.heap.size w0 W
  x : BlkL W w0.heap.size lx
  y : BlkL W (w0.heap.size + 1) ly
theorem SwP.drew {w0 W : World} {lx ly : List Value} (h : SwP w0 W lx ly) : SwP w0 W.drew lx ly := ⟨h.b.drew, h.x.drew, h.y.drew⟩
theorem SwP.below {w0 W W' : World} {lx ly : List Value} (h : SwP w0 W lx ly) (hb : Below W.heap.size W W') : SwP w0 W' lx ly := ⟨h.b.trans (hb.mono h.b.size), h.x.below hb, h.y.below hb⟩
/-- Two books, and boxes beside them. -/
structure SwQ (w6 W : World) (xa xb ma mb : Nat) (A1 A2 : Option Addr) (c1 c2 : Nat) (Bx : List (Nat × List Value)) (ka kb : Nat) (Ma Mb : BkMap) : Prop where
  off : Off [ma, mb] w6 W
  blk : ∀ p ∈ Bx, BlkL W p.1 p.2 ∧ p.1 ≠ ma ∧ p.1 ≠ mb
  a : BkX W xa A1 2 c1 tabL 4096 ma ka Ma
  b : BkX W xb A2 2 c2 tabL 4096 mb kb Mb
section
variable {w6 W W' : World} {xa xb ma mb : Nat} {A1 A2 : Option Addr} {c1 c2 ka kb : Nat} {Bx : List (Nat × List Value)} {Ma Mb : BkMap}
theorem SwQ.below (h : SwQ w6 W xa xb ma mb A1 A2 c1 c2 Bx ka kb Ma Mb) (hb : Below W.heap.size W W') : SwQ w6 W' xa xb ma mb A1 A2 c1 c2 Bx ka kb Ma Mb :=
  ⟨h.off.trans (Off.of_below hb), fun p hp => ⟨(h.blk p hp).1.below hb, (h.blk p hp).2⟩, h.a.below hb, h.b.below hb⟩
theorem SwQ.push (h : SwQ w6 W xa xb ma mb A1 A2 c1 c2 Bx ka kb Ma Mb) (ls : List Value) (T : TypeId) : SwQ w6 (W.alloc (.cells ls.toArray T)) xa xb ma mb A1 A2 c1 c2 ((W.heap.size, ls) :: Bx) ka kb Ma Mb := by
  have hb := h.below (below_a1 W (.cells ls.toArray T))
  refine ⟨hb.off, fun p hp => ?_, hb.a, hb.b⟩
  rcases List.mem_cons.1 hp with rfl | hp
  · exact ⟨BlkL.new W ls T, Nat.ne_of_gt h.a.lt, Nat.ne_of_gt h.b.lt⟩
  · exact hb.blk p hp
theorem SwQ.doA (h : SwQ w6 W xa xb ma mb A1 A2 c1 c2 Bx ka kb Ma Mb) (hne : ma ≠ mb) (v : FitV) (hv : v.ok) (now : Nat) (hnow : now ≤ 4611686018427387903) (hkey : Arg W W.heap.size v.A v.m v.c v.zs) (hk : ka ≤ 4000) :
    Calls Try.prog 18 #[.pointer (some ⟨xa, 0, none⟩), .agg #[.int .u8 (v.o : Nat), .int .i64 (v.p : Nat), .slice v.A v.m v.c, .int .i64 v.N], .int .i64 (now : Nat), .int .i64 v.s] W
      fun e w' => ∃ (k' : Nat), e = .returned (repX (repF tabL Ma v.o v.p v.zs v.N now v.s ka k')) ∧ SwQ w6 w' xa xb ma mb A1 A2 c1 c2 Bx k' kb (actM tabL Ma v.o v.p v.zs v.N now v.s) Mb ∧ k' ≤ ka + 1 := by
  refine (do_abs h.a v hv rfl rfl rfl now hnow hkey (by omega) (fun _ => .inr (by omega))).mono ?_
  rintro e w' ⟨k', he, hb, hk', ho⟩
  obtain ⟨es, ck, hm⟩ := bkx_map h.a
  exact ⟨k', he, ⟨h.off.trans (ho.mono (by simp)), fun p hp => ⟨(h.blk p hp).1.off ho (by simpa using (h.blk p hp).2.1), (h.blk p hp).2⟩, hb, h.b.other hm (Ne.symm hne) ho⟩, hk'⟩
theorem SwQ.doB (h : SwQ w6 W xa xb ma mb A1 A2 c1 c2 Bx ka kb Ma Mb) (hne : ma ≠ mb) (v : FitV) (hv : v.ok) (now : Nat) (hnow : now ≤ 4611686018427387903) (hkey : Arg W W.heap.size v.A v.m v.c v.zs) (hk : kb ≤ 4000) :
    Calls Try.prog 18 #[.pointer (some ⟨xb, 0, none⟩), .agg #[.int .u8 (v.o : Nat), .int .i64 (v.p : Nat), .slice v.A v.m v.c, .int .i64 v.N], .int .i64 (now : Nat), .int .i64 v.s] W
      fun e w' => ∃ (k' : Nat), e = .returned (repX (repF tabL Mb v.o v.p v.zs v.N now v.s kb k')) ∧ SwQ w6 w' xa xb ma mb A1 A2 c1 c2 Bx ka k' Ma (actM tabL Mb v.o v.p v.zs v.N now v.s) ∧ k' ≤ kb + 1 := by
  refine (do_abs h.b v hv rfl rfl rfl now hnow hkey (by omega) (fun _ => .inr (by omega))).mono ?_
  rintro e w' ⟨k', he, hb, hk', ho⟩
  obtain ⟨es, ck, hm⟩ := bkx_map h.b
  exact ⟨k', he, ⟨h.off.trans (ho.mono (by simp)), fun p hp => ⟨(h.blk p hp).1.off ho (by simpa using (h.blk p hp).2.2), (h.blk p hp).2⟩, h.a.other hm hne ho, hb⟩, hk'⟩
end
theorem eqRepX (a b c d e : Int) (g : Bool) (w : World) : (binOp .eql 42 (.agg #[.int .i64 a, .bool g, .int .i64 b, .int .i64 c, .int .i64 d, .int .i64 e]) (.agg #[.int .i64 a, .bool g, .int .i64 b, .int .i64 c, .int .i64 d, .int .i64 e])).run Try.prog w = .ok (.bool true) w := by simp [go_sem, Result.andThen]

end Go.Proofs.Ytnkecjjfbllgdaa


/- BookEvicts: what is idle is nothing, as mathematics. -/
namespace Go.Proofs.Ytnkecjjfbllgdaa
open Go.RowKit Go.Maps
set_option maxRecDepth 100000
set_option linter.unusedVariables false

theorem gr_idle {T Tau tat now n : Nat} (h : tat ≤ now) : grB T Tau tat now n = grB T Tau 0 now n := by
  unfold grB leftV
  rw [show max tat now = max 0 now by omega]
theorem left_idle {T Tau tat now : Nat} (h : tat ≤ now) : leftV T Tau tat now = leftV T Tau 0 now := by
  unfold leftV
  rw [show max tat now = max 0 now by omega]
theorem left_tat {T Tau tat now n : Nat} (h : tat ≤ now) : leftV T Tau (tatV T Tau tat now n) now = leftV T Tau (tatV T Tau 0 now n) now := by
  unfold tatV
  rw [gr_idle h, show max tat now = max 0 now by omega]
  split
  · rfl
  · exact left_idle h
theorem wt_idle {T Tau tat now n : Nat} (h : tat ≤ now) : wtV T Tau tat now n = wtV T Tau 0 now n := by
  unfold wtV waitV
  rw [gr_idle h, show max tat now = max 0 now by omega]
/-- A cell that is idle answers as none. -/
theorem cell_idle {p : PolM} {c : CelM} {o now : Nat} {N s : Int} (hi : idleB c now = true) (ho : 1 ≤ o ∧ o ≤ 4) :
    (cellM p c o N now s).1 = (cellM p CelM.zero o N now s).1 ∧ (cellM p c o N now s).2.2 = (cellM p CelM.zero o N now s).2.2 ∧ ((cellM p c o N now s).2.2 = true → (cellM p c o N now s).2.1 = (cellM p CelM.zero o N now s).2.1) := by
  obtain ⟨tat, held⟩ := c
  unfold idleB at hi
  simp only [Bool.and_eq_true, decide_eq_true_eq] at hi
  obtain ⟨ht, hh⟩ := hi
  obtain rfl : held = [] := List.eq_nil_of_length_eq_zero hh
  have hc : o = 1 ∨ o = 2 ∨ o = 3 ∨ o = 4 := by omega
  rcases hc with rfl | rfl | rfl | rfl
  · unfold cellM
    simp only [if_true]
    unfold allowM CelM.zero
    simp only
    refine ⟨by rw [gr_idle ht, left_tat ht, wt_idle ht], by rw [gr_idle ht], fun h => ?_⟩
    rw [Bool.and_eq_true] at h
    have hn := of_decide_eq_true h.2
    have hg0 : grB p.T.toNat p.Tau.toNat 0 now N.toNat = true := by rw [← gr_idle ht]; exact h.1
    rw [tatV_pos h.1 hn, tatV_pos hg0 hn, show max tat now = max 0 now by omega]
  · exact ⟨rfl, rfl, fun _ => rfl⟩
  · exact ⟨rfl, rfl, fun _ => rfl⟩
  · unfold cellM
    simp only [show ¬ ((4 : Nat) = 1) by decide, show ¬ ((4 : Nat) = 2) by decide, show ¬ ((4 : Nat) = 3) by decide, if_false]
    unfold peekM CelM.zero
    simp only
    refine ⟨?_, trivial, fun h => by cases h⟩
    rw [left_idle ht, show tat - now = 0 - now by omega]
/-- Ma, and Mb where what is idle may have been forgotten. -/
def EvRel (Ma Mb : BkMap) (now : Nat) : Prop := ∀ z, Mb z = Ma z ∨ (Mb z = none ∧ ∃ c, Ma z = some c ∧ idleB c now = true)
theorem idle_mono {c : CelM} {a b : Nat} (h : a ≤ b) (hi : idleB c a = true) : idleB c b = true := by
  unfold idleB at *
  simp only [Bool.and_eq_true, decide_eq_true_eq] at *
  exact ⟨by omega, hi.2⟩
theorem EvRel.mono {Ma Mb : BkMap} {a b : Nat} (h : EvRel Ma Mb a) (hab : a ≤ b) : EvRel Ma Mb b := fun z => by
  rcases h z with h | ⟨h1, c, h2, h3⟩
  · exact .inl h
  · exact .inr ⟨h1, c, h2, idle_mono hab h3⟩
theorem EvRel.evict {Ma Mb : BkMap} {now : Nat} (h : EvRel Ma Mb now) : EvRel Ma (evictB Mb now) now := fun z => by
  unfold evictB
  rcases h z with h | ⟨h1, c, h2, h3⟩
  · rcases hm : Ma z with _ | c
    · rw [h, hm]; exact .inl rfl
    · rw [h, hm]
      simp only
      by_cases hi : idleB c now = false
      · rw [if_pos hi]; exact .inl rfl
      · rw [if_neg hi]; exact .inr ⟨rfl, c, rfl, by simpa using hi⟩
  · rw [h1]; exact .inr ⟨rfl, c, h2, h3⟩
theorem EvRel.same {Ma Mb : BkMap} {now : Nat} (h : EvRel Ma Mb now) : evictB Ma now = evictB Mb now := by
  funext z
  unfold evictB
  rcases h z with h | ⟨h1, c, h2, h3⟩
  · rw [h]
  · rw [h1, h2]
    simp only
    rw [if_neg (by rw [h3]; simp)]
theorem EvRel.cell {Ma Mb : BkMap} {now : Nat} (h : EvRel Ma Mb now) (z : List Nat) (p : PolM) {o : Nat} (N s : Int) (ho : 1 ≤ o ∧ o ≤ 4) :
    (cellM p (getB Ma z) o N now s).1 = (cellM p (getB Mb z) o N now s).1 ∧ (cellM p (getB Ma z) o N now s).2.2 = (cellM p (getB Mb z) o N now s).2.2 ∧ ((cellM p (getB Ma z) o N now s).2.2 = true → (cellM p (getB Ma z) o N now s).2.1 = (cellM p (getB Mb z) o N now s).2.1) := by
  rcases h z with h | ⟨h1, c, h2, h3⟩
  · have e : getB Ma z = getB Mb z := by unfold getB; rw [h]
    rw [e]; exact ⟨rfl, rfl, fun _ => rfl⟩
  · have e1 : getB Ma z = c := by unfold getB; rw [h2]; rfl
    have e2 : getB Mb z = CelM.zero := by unfold getB; rw [h1]; rfl
    rw [e1, e2]; exact cell_idle h3 ho
theorem EvRel.act {Ma Mb : BkMap} {now : Nat} (h : EvRel Ma Mb now) (l : List PolM) (o p : Nat) (zs : List Nat) (N s : Int) (ho : 1 ≤ o ∧ o ≤ 6) (h5 : o ≠ 5) : EvRel (actM l Ma o p zs N now s) (actM l Mb o p zs N now s) now := by
  by_cases h6 : o = 6
  · unfold actM
    rw [if_neg h5, if_neg h5, if_pos h6, if_pos h6]
    exact h
  · rw [actM_lt _ _ _ _ _ _ _ _ (by omega), actM_lt _ _ _ _ _ _ _ _ (by omega)]
    obtain ⟨_, e2, e3⟩ := h.cell (p :: zs) (l.getD p noPol) N s (o := o) (by omega)
    unfold afterB
    rw [← e2]
    split
    · rename_i hc
      rw [← e3 hc]
      intro z
      unfold putB
      by_cases e : z = p :: zs
      · rw [if_pos e, if_pos e]; exact .inl rfl
      · rw [if_neg e, if_neg e]; exact h z
    · exact h
theorem EvRel.rep {Ma Mb : BkMap} {now : Nat} (h : EvRel Ma Mb now) (l : List PolM) (o p : Nat) (zs : List Nat) (N s : Int) (ho : 1 ≤ o ∧ o ≤ 6) (h5 : o ≠ 5) (k1 k2 k3 k4 : Nat) : repF l Ma o p zs N now s k1 k2 = repF l Mb o p zs N now s k3 k4 := by
  unfold repF
  by_cases h4 : o ≤ 4
  · rw [if_pos h4, if_pos h4]
    exact (h.cell (p :: zs) (l.getD p noPol) N s (o := o) (by omega)).1
  · rw [if_neg h4, if_neg h4, if_neg h5, if_neg h5]
/-- Whoever has forgotten has no more cells. -/
theorem ids_le {Ma Mb : BkMap} {now : Nat} (h : EvRel Ma Mb now) {Ka Kb : List (List UInt8)} (ha : IdsOf Ma Ka) (hb : IdsOf Mb Kb) : Kb.length ≤ Ka.length := by
  have hf : IdsOf Mb (Ka.filter fun x => (Mb (natL x)).isSome) := by
    refine ⟨ha.sorted.filter _, ha.nodup.filter _, fun x => ?_⟩
    rw [List.mem_filter]
    constructor
    · exact fun hx => hx.2
    · intro hx
      refine ⟨(ha.mem x).2 ?_, hx⟩
      rcases h (natL x) with h | ⟨h1, _⟩
      · rw [← h]; exact hx
      · rw [h1] at hx; cases hx
  rw [hb.uniq hf]
  exact List.length_filter_le _ _
theorem EvRel.le {w w' : World} {b n c room mb k b' n' c' room' mb' k' now : Nat} {A A' : Option Addr} {l l' : List PolM} {Ma Mb : BkMap} (h : EvRel Ma Mb now) (ha : BkX w b A n c l room mb k Ma) (hb : BkX w' b' A' n' c' l' room' mb' k' Mb) : k' ≤ k := by
  obtain ⟨K1, a1, a2⟩ := ha.cnt
  obtain ⟨K2, b1, b2⟩ := hb.cnt
  rw [← a2, ← b2]
  exact ids_le h a1 b1
end Go.Proofs.Ytnkecjjfbllgdaa


/- BookEvicts: the walk. -/
namespace Go.Proofs.Ytnkecjjfbllgdaa
open Go.RowKit Go.Maps
set_option maxRecDepth 100000
set_option linter.unusedVariables false

structure EvR (w0 w : World) (xa xb ma mb : Nat) (A1 A2 : Option Addr) (c1 c2 j nl : Nat) : Prop where
  low : Below w0.heap.size w0 w
  ne : ma ≠ mb
  ga : w0.heap.size ≤ ma
  gb : w0.heap.size ≤ mb
  nw : nl ≤ 4611686018427387903
  st : ∃ ka kb Ma Mb, BkX w xa A1 2 c1 tabL 4096 ma ka Ma ∧ BkX w xb A2 2 c2 tabL 4096 mb kb Mb ∧ ka ≤ j ∧ kb ≤ j ∧ EvRel Ma Mb nl
theorem blen_x {w : World} {b n c room mb k : Nat} {A : Option Addr} {l : List PolM} {M : BkMap} (h : BkX w b A n c l room mb k M) : Calls Try.prog 19 #[.pointer (some ⟨b, 0, none⟩)] w fun e w' => e = .returned (.int .i64 (k : Nat)) ∧ w' = w := by
  obtain ⟨D, hd1, hd2⟩ := h.e
  exact blen_any w b mb k (h.r.blk.cell 2 _ rfl) (fun ty => by have := hd1.len Try.underlying69 ty; rw [hd2] at this; exact this)
section
variable {w6 W : World} {xa xb ma mb : Nat} {A1 A2 : Option Addr} {c1 c2 ka kb : Nat} {Bx : List (Nat × List Value)} {Ma Mb : BkMap}
theorem SwQ.evB (h : SwQ w6 W xa xb ma mb A1 A2 c1 c2 Bx ka kb Ma Mb) (hne : ma ≠ mb) (now : Nat) (hnow : now ≤ 4611686018427387903) (hk : kb ≤ 4000) :
    Calls Try.prog 18 #[.pointer (some ⟨xb, 0, none⟩), .agg #[.int .u8 5, .int .i64 0, .slice none 0 0, .int .i64 0], .int .i64 (now : Nat), .int .i64 0] W
      fun e w' => ∃ k' Lf : Nat, e = .returned (.agg #[.int .i64 0, .bool false, .int .i64 (Lf : Nat), .int .i64 0, .int .i64 0, .int .i64 (now : Nat)]) ∧ SwQ w6 w' xa xb ma mb A1 A2 c1 c2 Bx ka k' Ma (evictB Mb now) ∧ k' ≤ kb := by
  refine (book_evict W xb 2 c2 4096 mb kb 0 0 now A2 none tabL Mb 0 0 0 h.b hnow (by omega)).mono ?_
  rintro e w' ⟨k', hk', he, hb, ho⟩
  obtain ⟨es, ck, hm⟩ := bkx_map h.b
  exact ⟨k', kb - k', by rw [he, show ((kb - k' : Nat) : Int) = (kb : Int) - (k' : Int) by omega], ⟨h.off.trans (ho.mono (by simp)), fun p hp => ⟨(h.blk p hp).1.off ho (by simpa using (h.blk p hp).2.2), (h.blk p hp).2⟩, h.a.other hm hne ho, hb⟩, hk'⟩
theorem SwQ.evA (h : SwQ w6 W xa xb ma mb A1 A2 c1 c2 Bx ka kb Ma Mb) (hne : ma ≠ mb) (now : Nat) (hnow : now ≤ 4611686018427387903) (hk : ka ≤ 4000) :
    Calls Try.prog 18 #[.pointer (some ⟨xa, 0, none⟩), .agg #[.int .u8 5, .int .i64 0, .slice none 0 0, .int .i64 0], .int .i64 (now : Nat), .int .i64 0] W
      fun e w' => ∃ k' Lf : Nat, e = .returned (.agg #[.int .i64 0, .bool false, .int .i64 (Lf : Nat), .int .i64 0, .int .i64 0, .int .i64 (now : Nat)]) ∧ SwQ w6 w' xa xb ma mb A1 A2 c1 c2 Bx k' kb (evictB Ma now) Mb ∧ k' ≤ ka := by
  refine (book_evict W xa 2 c1 4096 ma ka 0 0 now A1 none tabL Ma 0 0 0 h.a hnow (by omega)).mono ?_
  rintro e w' ⟨k', hk', he, hb, ho⟩
  obtain ⟨es, ck, hm⟩ := bkx_map h.a
  exact ⟨k', ka - k', by rw [he, show ((ka - k' : Nat) : Int) = (ka : Int) - (k' : Int) by omega], ⟨h.off.trans (ho.mono (by simp)), fun p hp => ⟨(h.blk p hp).1.off ho (by simpa using (h.blk p hp).2.1), (h.blk p hp).2⟩, hb, h.b.other hm (Ne.symm hne) ho⟩, hk'⟩
end

set_option maxHeartbeats 12800000 in
theorem bookEvicts_walk (A0 : Option Addr) (n0 c0 : Nat) (sc : List AskV) (w : World) (hsc : AskA w w.heap.size A0 n0 c0 sc) (hcap : c0 ≤ 2199023255488) :
    Calls Try.prog 4 #[.slice A0 n0 c0] w (ValEnd w (.bool true)) := by
  have HAw := Lib.hid (awake16_any w)
  have HSC := Lib.hid hsc
  have HN := Lib.hid tab_new
  have HT := Lib.hid table_any
  have hle0 : n0 ≤ c0 := hsc.arg.le
  clear hsc
  go_enter Try.func4, Try.ntmps4
  go_wp2_with fail
  refine HAw.out.mono ?_
  rintro e w1 ⟨rfl, hb1⟩
  have HB1 := Lib.hid hb1
  clear hb1 HAw
  go_wp2_with fail
  refine (HT.out w1).mono ?_
  rintro e w2 ⟨rfl, rfl⟩
  go_wp2_with fail
  refine (HN.out w1).mono ?_
  rintro e w2 ⟨xa, A1, ca, ma, rfl, hxa, hma, hb2⟩
  have HB2 := Lib.hid (HB1.out.trans (hb2.mono HB1.out.size))
  have HXa := Lib.hid hxa
  have HMa := Lib.hid (Nat.le_trans HB1.out.size hma)
  clear hb2 hxa hma
  go_wp2_with fail
  refine (HT.out w2).mono ?_
  rintro e w3 ⟨rfl, rfl⟩
  go_wp2_with fail
  refine (HN.out w2).mono ?_
  rintro e w3 ⟨xb, A2, cb, mb, rfl, hxb, hmb, hb3⟩
  have hAp : EvR w w3 xa xb ma mb A1 A2 ca cb 0 0 :=
    ⟨HB2.out.trans (hb3.mono HB2.out.size), by have := HXa.out.lt; omega, HMa.out, Nat.le_trans HB2.out.size hmb, Nat.zero_le _, ⟨0, 0, _, _, HXa.out.below hb3, hxb, Nat.le_refl _, Nat.le_refl _, fun z => .inl rfl⟩⟩
  have HAp := Lib.hid hAp
  clear hxb hmb hb3 hAp HXa HMa HB1 HB2 HT HN
  go_wp2_with fail
  go_loopw [7, 33] (fun nv iv wr => ∃ j nl : Nat, j ≤ n0 ∧ j ≤ 150 ∧ iv = .int .i64 (j : Int) ∧ nv = .int .i64 (nl : Int) ∧ EvR w wr xa xb ma mb A1 A2 ca cb j nl) (fun _ iv _ => n0 - (intOf iv).toNat)
  case atStart => exact ⟨0, 0, Nat.zero_le _, Nat.zero_le _, rfl, rfl, HAp.out⟩
  case round =>
    obtain ⟨j, nl, hj, hj150, rfl, rfl, hap⟩ := hrel
    have hnl := hap.nw
    have HP := Lib.hid hap
    clear hap HAp
    rcases Nat.lt_or_ge j n0 with h1 | h1
    · have hln := HSC.out.len
      have hkk := HSC.out.key _ (ask_mem (l := sc) (i := j) (by omega))
      obtain ⟨b, off, rfl, hbB, hcc⟩ := ((HSC.out.below HP.out.low).arg).at_ (by omega)
      have hf := fun t ht => FA_at sc j t (by omega) ht
      have e0 := (hcc (j * 6) (by omega)).trans (hf 0 (by omega))
      have e1 := (hcc (j * 6 + 1) (by omega)).trans (hf 1 (by omega))
      have e2 := (hcc (j * 6 + 2) (by omega)).trans (hf 2 (by omega))
      have e3 := (hcc (j * 6 + 3) (by omega)).trans (hf 3 (by omega))
      have e4 := (hcc (j * 6 + 4) (by omega)).trans (hf 4 (by omega))
      have e5 := (hcc (j * 6 + 5) (by omega)).trans (hf 5 (by omega))
      clear hcc hf hln hbB
      generalize sc.getD j noAsk = a at hkk e0 e1 e2 e3 e4 e5
      obtain ⟨v, hv, kv, fv⟩ := fit_abs a hkk
      obtain ⟨aop, aq, aA, an, ac, azs, aN, anow, asr⟩ := a
      simp only [AskV.cells, List.getElem?_cons_zero, List.getElem?_cons_succ] at e0 e1 e2 e3 e4 e5
      have e1 : wr.cell? ⟨b, off + j * 6 + 1, none⟩ = some (.int .i64 aq) := e1
      have e2 : wr.cell? ⟨b, off + j * 6 + 2, none⟩ = some (.slice aA an ac) := e2
      have e3 : wr.cell? ⟨b, off + j * 6 + 3, none⟩ = some (.int .i64 aN) := e3
      have e4 : wr.cell? ⟨b, off + j * 6 + 4, none⟩ = some (.int .i64 anow) := e4
      have e5 : wr.cell? ⟨b, off + j * 6 + 5, none⟩ = some (.int .i64 asr) := e5
      have HV := Lib.hid (And.intro hv kv)
      have HF := Lib.hid fv
      clear hkk hv kv fv
      rcases Nat.lt_or_ge j 150 with h2 | h2
      · obtain ⟨nx, hnx⟩ : ∃ nx, nx = max nl v.nw := ⟨_, rfl⟩
        have m1 : (if nl < v.nw then (v.nw : Int) else (nl : Int)) = (nx : Int) := by split <;> omega
        have HNX := Lib.hid (show nl ≤ nx ∧ nx ≤ 4611686018427387903 by have := HV.out.1.nw; omega)
        have m2 : max (nl : Int) (v.nw : Int) = (nx : Int) := by omega
        have HMX := Lib.hid (And.intro m1 m2)
        clear hnx m1 m2
        go_wp2_with fail
        refine (HF.out _).mono ?_
        rintro e w5 ⟨rfl, hb5⟩
        have k0 := (BlkL.new wr [.int .u8 (aop : Nat), .int .i64 aq, .slice aA an ac, .int .i64 aN, .int .i64 anow, .int .i64 asr] 39).below hb5
        have HB5 := Lib.hid ((below_a1 wr (.cells #[.int .u8 (aop : Nat), .int .i64 aq, .slice aA an ac, .int .i64 aN, .int .i64 anow, .int .i64 asr] 39)).trans (hb5.mono (by simp)))
        clear hb5 e0 e1 e2 e3 e4 e5 HF
        have c0 := k0.cell 0 _ rfl
        have c1 := k0.cell 1 _ rfl
        have c2 := k0.cell 2 _ rfl
        have c3 := k0.cell 3 _ rfl
        have c4 := k0.cell 4 _ rfl
        have c5 := k0.cell 5 _ rfl
        have f0 := k0.froz 0 (by simp)
        have f1 := k0.froz 1 (by simp)
        have f2 := k0.froz 2 (by simp)
        have f3 := k0.froz 3 (by simp)
        have f4 := k0.froz 4 (by simp)
        have f5 := k0.froz 5 (by simp)
        have K0 := Lib.hid k0
        clear k0
        go_upto_region 13 with (fail)
        have kbx := K0.out.put6 (.int .u8 (v.o : Nat)) (.int .i64 (v.p : Nat)) (.slice v.A v.m v.c) (.int .i64 v.N) (.int .i64 (v.nw : Nat)) (.int .i64 v.s)
        have hbx := below_put6 HB5.out (b := wr.heap.size) (Nat.le_refl _) (.int .u8 (v.o : Nat)) (.int .i64 (v.p : Nat)) (.slice v.A v.m v.c) (.int .i64 v.N) (.int .i64 (v.nw : Nat)) (.int .i64 v.s)
        clear c0 c1 c2 c3 c4 c5 f0 f1 f2 f3 f4 f5 K0 HB5
        generalize World.setCell _ _ _ = WB at kbx hbx ⊢
        obtain ⟨ka, kb, Ma, Mb, hA, hB, hka, hkb, hre⟩ := HP.out.st
        have hq0 : SwQ wr WB xa xb ma mb A1 A2 ca cb [(wr.heap.size, [.int .u8 (v.o : Nat), .int .i64 (v.p : Nat), .slice v.A v.m v.c, .int .i64 v.N, .int .i64 (v.nw : Nat), .int .i64 v.s])] ka kb Ma Mb :=
          ⟨Off.of_below hbx, fun p hp => by
            obtain rfl := List.mem_singleton.1 hp
            exact ⟨kbx, Nat.ne_of_gt hA.lt, Nat.ne_of_gt hB.lt⟩, hA.below hbx, hB.below hbx⟩
        have hne := HP.out.ne
        have HKY := Lib.hid (fun W (hW : Off [ma, mb] wr W) => show Arg W W.heap.size v.A v.m v.c v.zs from ((HV.out.2.below HP.out.low).below (hW.below HP.out.low.size (by intro x hx; have g1 := HP.out.ga; have g2 := HP.out.gb; simp at hx; omega))).more (Nat.le_trans HP.out.low.size hW.size))
        have HLW := Lib.hid (fun W (hW : Off [ma, mb] wr W) => show Below w.heap.size w W from HP.out.low.trans (hW.below HP.out.low.size (by intro x hx; have g1 := HP.out.ga; have g2 := HP.out.gb; simp at hx; omega)))
        have HRE := Lib.hid (hre.mono HNX.out.1)
        have HQ0 := Lib.hid hq0
        have HKK := Lib.hid (And.intro hka hkb)
        have HEV := Lib.hid (hq0.evB hne nx HNX.out.2 (by omega))
        clear hA hB hre kbx hbx
        have c0 := (hq0.blk _ (List.Mem.head _)).1.cell 0 _ rfl
        have c1 := (hq0.blk _ (List.Mem.head _)).1.cell 1 _ rfl
        have c2 := (hq0.blk _ (List.Mem.head _)).1.cell 2 _ rfl
        have c3 := (hq0.blk _ (List.Mem.head _)).1.cell 3 _ rfl
        have c4 := (hq0.blk _ (List.Mem.head _)).1.cell 4 _ rfl
        have c5 := (hq0.blk _ (List.Mem.head _)).1.cell 5 _ rfl
        have m1 := HMX.out.1
        have m2 := HMX.out.2
        clear hq0 hka hkb
        by_cases hv5 : v.o = 5
        · have d5 : ((v.o : Int) == 5) = true := by rw [hv5]; rfl
          go_wp2
          go_roundw
          case rel => exact ⟨j + 1, nx, by omega, by omega, by push_cast; rfl, rfl, ⟨HLW.out _ HQ0.out.off, hne, HP.out.ga, HP.out.gb, HNX.out.2, ⟨ka, kb, Ma, Mb, HQ0.out.a, HQ0.out.b, by have := HKK.out.1; omega, by have := HKK.out.2; omega, HRE.out⟩⟩⟩
          case measure => simp [intOf]; omega
        · have d5 : ((v.o : Int) == 5) = false := beq_eq_false_iff_ne.2 (by omega)
          go_wp2_with fail
          with_reducible refine (HEV.out).mono ?_
          rintro e w6 ⟨kb', Lf, rfl, hz, hkb'⟩
          have hq := hz.push [.int .i64 0, .bool false, .int .i64 (Lf : Nat), .int .i64 0, .int .i64 0, .int .i64 (nx : Nat)] 42
          have hre2 := HRE.out.evict
          have hcnt : kb' ≤ ka := hre2.le hq.a hq.b
          have HRE2 := Lib.hid hre2
          have HKB := Lib.hid hkb'
          have HQ1 := Lib.hid hq
          have dnx : ((nx : Int) != (nx : Int)) = false := by simp
          have HLB := Lib.hid (blen_x hq.b)
          have HLA := Lib.hid (blen_x hq.a)
          clear c0 c1 c2 c3 c4 c5 HEV hz hkb' hre2
          have c0 := (hq.blk _ (List.Mem.tail _ (List.Mem.head _))).1.cell 0 _ rfl
          have c1 := (hq.blk _ (List.Mem.tail _ (List.Mem.head _))).1.cell 1 _ rfl
          have c2 := (hq.blk _ (List.Mem.tail _ (List.Mem.head _))).1.cell 2 _ rfl
          have c3 := (hq.blk _ (List.Mem.tail _ (List.Mem.head _))).1.cell 3 _ rfl
          have c4 := (hq.blk _ (List.Mem.tail _ (List.Mem.head _))).1.cell 4 _ rfl
          have c5 := (hq.blk _ (List.Mem.tail _ (List.Mem.head _))).1.cell 5 _ rfl
          have r0 := (hq.blk _ (List.Mem.head _)).1.cell 0 _ rfl
          have r1 := (hq.blk _ (List.Mem.head _)).1.cell 1 _ rfl
          have r2 := (hq.blk _ (List.Mem.head _)).1.cell 2 _ rfl
          have r3 := (hq.blk _ (List.Mem.head _)).1.cell 3 _ rfl
          have r4 := (hq.blk _ (List.Mem.head _)).1.cell 4 _ rfl
          have r5 := (hq.blk _ (List.Mem.head _)).1.cell 5 _ rfl
          clear hq
          go_wp2_with fail
          refine HLB.out.mono ?_
          rintro e w7 ⟨rfl, rfl⟩
          go_wp2_with fail
          refine HLA.out.mono ?_
          rintro e w7 ⟨rfl, rfl⟩
          obtain ⟨RP, hR1, hR2⟩ : ∃ RP, (∀ k k', repF tabL Ma v.o v.p v.zs v.N nx v.s k k' = RP) ∧ (∀ k k', repF tabL (evictB Mb nx) v.o v.p v.zs v.N nx v.s k k' = RP) :=
            ⟨repF tabL (evictB Mb nx) v.o v.p v.zs v.N nx v.s 0 0, fun k k' => HRE2.out.rep tabL v.o v.p v.zs v.N v.s HV.out.1.o hv5 k k' 0 0, fun k k' => (HRE2.out.rep tabL v.o v.p v.zs v.N v.s HV.out.1.o hv5 0 0 k k').symm.trans (HRE2.out.rep tabL v.o v.p v.zs v.N v.s HV.out.1.o hv5 0 0 0 0)⟩
          have HA := Lib.hid (fun W (hW : SwQ wr W xa xb ma mb A1 A2 ca cb [(w6.heap.size, [.int .i64 0, .bool false, .int .i64 (Lf : Nat), .int .i64 0, .int .i64 0, .int .i64 (nx : Nat)]), (wr.heap.size, [.int .u8 (v.o : Nat), .int .i64 (v.p : Nat), .slice v.A v.m v.c, .int .i64 v.N, .int .i64 (v.nw : Nat), .int .i64 v.s])] ka kb' Ma (evictB Mb nx)) (hs : Arg W W.heap.size v.A v.m v.c v.zs) => show Calls Try.prog 18 #[.pointer (some ⟨xa, 0, none⟩), .agg #[.int .u8 (v.o : Nat), .int .i64 (v.p : Nat), .slice v.A v.m v.c, .int .i64 v.N], .int .i64 (nx : Nat), .int .i64 v.s] W (fun e w' => ∃ k' : Nat, e = .returned (repX RP) ∧ SwQ wr w' xa xb ma mb A1 A2 ca cb [(w6.heap.size, [.int .i64 0, .bool false, .int .i64 (Lf : Nat), .int .i64 0, .int .i64 0, .int .i64 (nx : Nat)]), (wr.heap.size, [.int .u8 (v.o : Nat), .int .i64 (v.p : Nat), .slice v.A v.m v.c, .int .i64 v.N, .int .i64 (v.nw : Nat), .int .i64 v.s])] k' kb' (actM tabL Ma v.o v.p v.zs v.N nx v.s) (evictB Mb nx) ∧ k' ≤ ka + 1) from
            (hW.doA hne v HV.out.1 nx HNX.out.2 hs (by have := HKK.out.1; omega)).mono fun e w' ⟨k', he, h1, h2⟩ => ⟨k', by rw [he, hR1], h1, h2⟩)
          have HBd := Lib.hid (fun W k1 Ma' (hW : SwQ wr W xa xb ma mb A1 A2 ca cb [(w6.heap.size, [.int .i64 0, .bool false, .int .i64 (Lf : Nat), .int .i64 0, .int .i64 0, .int .i64 (nx : Nat)]), (wr.heap.size, [.int .u8 (v.o : Nat), .int .i64 (v.p : Nat), .slice v.A v.m v.c, .int .i64 v.N, .int .i64 (v.nw : Nat), .int .i64 v.s])] k1 kb' Ma' (evictB Mb nx)) (hs : Arg W W.heap.size v.A v.m v.c v.zs) => show Calls Try.prog 18 #[.pointer (some ⟨xb, 0, none⟩), .agg #[.int .u8 (v.o : Nat), .int .i64 (v.p : Nat), .slice v.A v.m v.c, .int .i64 v.N], .int .i64 (nx : Nat), .int .i64 v.s] W (fun e w' => ∃ k' : Nat, e = .returned (repX RP) ∧ SwQ wr w' xa xb ma mb A1 A2 ca cb [(w6.heap.size, [.int .i64 0, .bool false, .int .i64 (Lf : Nat), .int .i64 0, .int .i64 0, .int .i64 (nx : Nat)]), (wr.heap.size, [.int .u8 (v.o : Nat), .int .i64 (v.p : Nat), .slice v.A v.m v.c, .int .i64 v.N, .int .i64 (v.nw : Nat), .int .i64 v.s])] k1 k' Ma' (actM tabL (evictB Mb nx) v.o v.p v.zs v.N nx v.s) ∧ k' ≤ kb' + 1) from
            (hW.doB hne v HV.out.1 nx HNX.out.2 hs (by have := HKB.out; have := HKK.out.2; omega)).mono fun e w' ⟨k', he, h1, h2⟩ => ⟨k', by rw [he, hR2], h1, h2⟩)
          have hqd : SwQ wr (World.drew _) xa xb ma mb A1 A2 ca cb [(w6.heap.size, [.int .i64 0, .bool false, .int .i64 (Lf : Nat), .int .i64 0, .int .i64 0, .int .i64 (nx : Nat)]), (wr.heap.size, [.int .u8 (v.o : Nat), .int .i64 (v.p : Nat), .slice v.A v.m v.c, .int .i64 v.N, .int .i64 (v.nw : Nat), .int .i64 v.s])] ka kb' Ma (evictB Mb nx) := HQ1.out.below (Below.refl _ _).drew
          have hkd := HKY.out _ hqd.off
          have hneq := neqRepX
          clear hR1 hR2 r0 r1 r2 r3 r4 r5
          go_wp2_with fail
          go_region_held3 (fun W => W.cell? ⟨wr.heap.size, 0, none⟩ = some (.int .u8 (v.o : Nat)) ∧ W.cell? ⟨wr.heap.size, 1, none⟩ = some (.int .i64 (v.p : Nat)) ∧ W.cell? ⟨wr.heap.size, 2, none⟩ = some (.slice v.A v.m v.c) ∧ W.cell? ⟨wr.heap.size, 3, none⟩ = some (.int .i64 v.N) ∧ W.cell? ⟨wr.heap.size, 4, none⟩ = some (.int .i64 (v.nw : Nat)) ∧ W.cell? ⟨wr.heap.size, 5, none⟩ = some (.int .i64 v.s)) (first | (exact ⟨(by with_reducible assumption), (by with_reducible assumption), (by with_reducible assumption), (by with_reducible assumption), (by with_reducible assumption), (by with_reducible assumption)⟩) | go_keep) (first | (with_reducible refine (HA.out _ (by assumption) (by assumption)).mono ?_; rintro e w8 ⟨k1, rfl, hz1, hk1⟩; have hs1 := HKY.out w8 hz1.off; clear c0 c1 c2 c3 c4 c5; have c0 := (hz1.blk _ (List.Mem.tail _ (List.Mem.head _))).1.cell 0 _ rfl; have c1 := (hz1.blk _ (List.Mem.tail _ (List.Mem.head _))).1.cell 1 _ rfl; have c2 := (hz1.blk _ (List.Mem.tail _ (List.Mem.head _))).1.cell 2 _ rfl; have c3 := (hz1.blk _ (List.Mem.tail _ (List.Mem.head _))).1.cell 3 _ rfl; have c4 := (hz1.blk _ (List.Mem.tail _ (List.Mem.head _))).1.cell 4 _ rfl; have c5 := (hz1.blk _ (List.Mem.tail _ (List.Mem.head _))).1.cell 5 _ rfl) | (with_reducible refine (HBd.out _ _ _ (by assumption) (by assumption)).mono ?_; rintro e w9 ⟨k2, rfl, hz2, hk2⟩; have HZ2 := Lib.hid hz2; have HK2 := Lib.hid hk2; clear c0 c1 c2 c3 c4 c5; have c0 := (hz2.blk _ (List.Mem.tail _ (List.Mem.head _))).1.cell 0 _ rfl; have c1 := (hz2.blk _ (List.Mem.tail _ (List.Mem.head _))).1.cell 1 _ rfl; have c2 := (hz2.blk _ (List.Mem.tail _ (List.Mem.head _))).1.cell 2 _ rfl; have c3 := (hz2.blk _ (List.Mem.tail _ (List.Mem.head _))).1.cell 3 _ rfl; have c4 := (hz2.blk _ (List.Mem.tail _ (List.Mem.head _))).1.cell 4 _ rfl; have c5 := (hz2.blk _ (List.Mem.tail _ (List.Mem.head _))).1.cell 5 _ rfl; clear hz2 hk2))
          go_wp2
          go_roundw
          case rel => exact ⟨j + 1, nx, by omega, by omega, by push_cast; rfl, rfl, ⟨HLW.out _ HZ2.out.off, hne, HP.out.ga, HP.out.gb, HNX.out.2, ⟨k1, k2, _, _, HZ2.out.a, HZ2.out.b, by have := HKK.out.1; omega, by have := HKK.out.2; have := HKB.out; have := HK2.out; omega, HRE2.out.act tabL v.o v.p v.zs v.N v.s HV.out.1.o hv5⟩⟩⟩
          case measure => simp [intOf]; omega
      · have hR := HP.out
        have hb9 := below_a1 wr (.cells #[.int .u8 (aop : Nat), .int .i64 aq, .slice aA an ac, .int .i64 aN, .int .i64 anow, .int .i64 asr] 39)
        have HR0 : Hid (EvR w (wr.alloc (.cells #[.int .u8 (aop : Nat), .int .i64 aq, .slice aA an ac, .int .i64 aN, .int .i64 anow, .int .i64 asr] 39)) xa xb ma mb A1 A2 ca cb 150 nl) := Lib.hid ⟨hR.low.trans (hb9.mono hR.low.size), hR.ne, hR.ga, hR.gb, hR.nw, by obtain ⟨ka, kb, Ma, Mb, g1, g2, g3, g4, g5⟩ := hR.st; exact ⟨ka, kb, Ma, Mb, g1.below hb9, g2.below hb9, by omega, by omega, g5⟩⟩
        clear hR hb9 HF
        go_upto_region 21 with (fail)
        clear e0 e1 e2 e3 e4 e5
        generalize World.alloc _ _ = W0 at HR0 ⊢
        obtain ⟨ka, kb, Ma, Mb, hA, hB, hka, hkb, hre⟩ := HR0.out.st
        have hne := HR0.out.ne
        have hnw := HR0.out.nw
        have q0 : SwQ W0 W0 xa xb ma mb A1 A2 ca cb [] ka kb Ma Mb := ⟨Off.refl _ _, fun p hp => (by cases hp), hA, hB⟩
        have HRE := Lib.hid hre
        have HEA := Lib.hid (q0.evA hne nl hnw (by omega))
        have HLW := Lib.hid (fun W (hW : Off [ma, mb] W0 W) => show Below w.heap.size w W from HR0.out.low.trans (hW.below HR0.out.low.size (by intro x hx; have g1 := HR0.out.ga; have g2 := HR0.out.gb; simp at hx; omega)))
        clear hA hB hre q0
        go_wp2_with fail
        with_reducible refine (HEA.out).mono ?_
        rintro e w2 ⟨ka', La, rfl, hz, hk1⟩
        have hq := hz.push [.int .i64 0, .bool false, .int .i64 (La : Nat), .int .i64 0, .int .i64 0, .int .i64 (nl : Nat)] 42
        have HEB := Lib.hid (hq.evB hne nl hnw (by omega))
        clear HEA hz hq
        go_wp2_with fail
        with_reducible refine (HEB.out).mono ?_
        rintro e w3 ⟨kb', Lb, rfl, hz, hk2⟩
        have hq := hz.push [.int .i64 0, .bool false, .int .i64 (Lb : Nat), .int .i64 0, .int .i64 0, .int .i64 (nl : Nat)] 42
        have p0 := (hq.blk _ (List.Mem.tail _ (List.Mem.head _))).1.cell 0 _ rfl
        have s0 := (hq.blk _ (List.Mem.head _)).1.cell 0 _ rfl
        have HCA := Lib.hid (cells_any _ xa 2 ca 4096 ma ka' A1 tabL _ hq.a (by omega))
        have HQN := Lib.hid hq
        clear HEB hz hq
        go_wp2_with fail
        refine HCA.out.mono ?_
        rintro e w6 ⟨L1, d1, l1, rfl, hl1, hlo1, hce1, hb6⟩
        have hq6 := HQN.out.below hb6
        have HCB := Lib.hid (cells_any _ xb 2 cb 4096 mb kb' A2 tabL _ hq6.b (by omega))
        have HL1 := Lib.hid (And.intro hlo1 (And.intro hl1 hce1))
        have HB6 := Lib.hid hq6.off
        clear hq6 hlo1 hl1 hce1 hb6 HCA
        go_wp2_with fail
        refine HCB.out.mono ?_
        rintro e w7 ⟨L2, d2, l2, rfl, hl2, hlo2, hce2, hb7⟩
        have hca1 := (CelsA.of HL1.out.2.1 HL1.out.2.2).below hb7
        have hca2 := CelsA.of hl2 hce2
        have HSM := Lib.hid (celsame_any w7 L1 L2 ka' d1 kb' d2 l1 l2 (hca1.more hb7.size) hca2 (HL1.out.1.uniq (by rw [HRE.out.same]; exact hlo2)) (by omega))
        have HB7 := Lib.hid (HB6.out.trans (Off.of_below (S := [ma, mb]) hb7))
        clear hca1 hca2 hl2 hlo2 hce2 hb7 HCB
        go_wp2_with fail
        refine HSM.out.mono ?_
        rintro e w8 ⟨rfl, t, rfl⟩
        have HB8 := Lib.hid (below_drewN (HLW.out _ HB7.out) t)
        go_wp2
        go_ret
        exact ⟨rfl, HB8.out⟩
    · obtain rfl : j = n0 := by omega
      have HR0 : Hid (EvR w wr xa xb ma mb A1 A2 ca cb 150 nl) := Lib.hid ⟨HP.out.low, HP.out.ne, HP.out.ga, HP.out.gb, HP.out.nw, by obtain ⟨ka, kb, Ma, Mb, g1, g2, g3, g4, g5⟩ := HP.out.st; exact ⟨ka, kb, Ma, Mb, g1, g2, by omega, by omega, g5⟩⟩
      clear HP
      generalize wr = W0 at HR0 ⊢
      obtain ⟨ka, kb, Ma, Mb, hA, hB, hka, hkb, hre⟩ := HR0.out.st
      have hne := HR0.out.ne
      have hnw := HR0.out.nw
      have q0 : SwQ W0 W0 xa xb ma mb A1 A2 ca cb [] ka kb Ma Mb := ⟨Off.refl _ _, fun p hp => (by cases hp), hA, hB⟩
      have HRE := Lib.hid hre
      have HEA := Lib.hid (q0.evA hne nl hnw (by omega))
      have HLW := Lib.hid (fun W (hW : Off [ma, mb] W0 W) => show Below w.heap.size w W from HR0.out.low.trans (hW.below HR0.out.low.size (by intro x hx; have g1 := HR0.out.ga; have g2 := HR0.out.gb; simp at hx; omega)))
      clear hA hB hre q0
      go_wp2_with fail
      with_reducible refine (HEA.out).mono ?_
      rintro e w2 ⟨ka', La, rfl, hz, hk1⟩
      have hq := hz.push [.int .i64 0, .bool false, .int .i64 (La : Nat), .int .i64 0, .int .i64 0, .int .i64 (nl : Nat)] 42
      have HEB := Lib.hid (hq.evB hne nl hnw (by omega))
      clear HEA hz hq
      go_wp2_with fail
      with_reducible refine (HEB.out).mono ?_
      rintro e w3 ⟨kb', Lb, rfl, hz, hk2⟩
      have hq := hz.push [.int .i64 0, .bool false, .int .i64 (Lb : Nat), .int .i64 0, .int .i64 0, .int .i64 (nl : Nat)] 42
      have p0 := (hq.blk _ (List.Mem.tail _ (List.Mem.head _))).1.cell 0 _ rfl
      have s0 := (hq.blk _ (List.Mem.head _)).1.cell 0 _ rfl
      have HCA := Lib.hid (cells_any _ xa 2 ca 4096 ma ka' A1 tabL _ hq.a (by omega))
      have HQN := Lib.hid hq
      clear HEB hz hq
      go_wp2_with fail
      refine HCA.out.mono ?_
      rintro e w6 ⟨L1, d1, l1, rfl, hl1, hlo1, hce1, hb6⟩
      have hq6 := HQN.out.below hb6
      have HCB := Lib.hid (cells_any _ xb 2 cb 4096 mb kb' A2 tabL _ hq6.b (by omega))
      have HL1 := Lib.hid (And.intro hlo1 (And.intro hl1 hce1))
      have HB6 := Lib.hid hq6.off
      clear hq6 hlo1 hl1 hce1 hb6 HCA
      go_wp2_with fail
      refine HCB.out.mono ?_
      rintro e w7 ⟨L2, d2, l2, rfl, hl2, hlo2, hce2, hb7⟩
      have hca1 := (CelsA.of HL1.out.2.1 HL1.out.2.2).below hb7
      have hca2 := CelsA.of hl2 hce2
      have HSM := Lib.hid (celsame_any w7 L1 L2 ka' d1 kb' d2 l1 l2 (hca1.more hb7.size) hca2 (HL1.out.1.uniq (by rw [HRE.out.same]; exact hlo2)) (by omega))
      have HB7 := Lib.hid (HB6.out.trans (Off.of_below (S := [ma, mb]) hb7))
      clear hca1 hca2 hl2 hlo2 hce2 hb7 HCB
      go_wp2_with fail
      refine HSM.out.mono ?_
      rintro e w8 ⟨rfl, t, rfl⟩
      have HB8 := Lib.hid (below_drewN (HLW.out _ HB7.out) t)
      go_wp2
      go_ret
      exact ⟨rfl, HB8.out⟩
end Go.Proofs.Ytnkecjjfbllgdaa
