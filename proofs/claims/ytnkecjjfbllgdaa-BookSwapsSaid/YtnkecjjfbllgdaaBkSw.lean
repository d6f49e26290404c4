/- BookSwaps: the walk. -/
import Derived.Test.YtnkecjjfbllgdaaBkCl
import Derived.Deep.DeepCutAuto
namespace Go.Proofs.Ytnkecjjfbllgdaa
open Go.RowKit Go.Maps
set_option maxRecDepth 100000
set_option linter.unusedVariables false

theorem get_after_ne {M : BkMap} {z1 z2 : List Nat} (X : OutM) (h : z2 ≠ z1) : getB (afterB M z1 X) z2 = getB M z2 := by
  unfold afterB
  split
  · unfold getB putB
    rw [if_neg h]
  · rfl
theorem after_comm (M : BkMap) {z1 z2 : List Nat} (X Y : OutM) (h : z1 ≠ z2) : afterB (afterB M z1 X) z2 Y = afterB (afterB M z2 Y) z1 X := by
  unfold afterB
  cases X.2.2 <;> cases Y.2.2 <;> simp only [if_true, Bool.false_eq_true, if_false]
  funext z
  unfold putB
  by_cases e1 : z = z1
  · rw [if_neg (fun e => h (e1.symm.trans e)), if_pos e1, if_pos e1]
  · by_cases e2 : z = z2
    · rw [if_pos e2, if_neg e1, if_pos e2]
    · rw [if_neg e2, if_neg e1, if_neg e1, if_neg e2]
theorem neqRepX (a b c d e : Int) (g : Bool) (w : World) : (binOp .neq 42 (.agg #[.int .i64 a, .bool g, .int .i64 b, .int .i64 c, .int .i64 d, .int .i64 e]) (.agg #[.int .i64 a, .bool g, .int .i64 b, .int .i64 c, .int .i64 d, .int .i64 e])).run Try.prog w = .ok (.bool false) w := by simp [go_sem, Result.andThen]
/-- Where two books with the same cells stand. -/
structure SwR (w0 w : World) (xa xb ma mb : Nat) (A1 A2 : Option Addr) (c1 c2 j : Nat) : Prop where
  low : Below w0.heap.size w0 w
  ne : ma ≠ mb
  ga : w0.heap.size ≤ ma
  gb : w0.heap.size ≤ mb
  st : ∃ k M, BkX w xa A1 2 c1 tabL 4096 ma k M ∧ BkX w xb A2 2 c2 tabL 4096 mb k M ∧ k ≤ j
/-- A book of two, in a region: what the other one, and the call's box, keep. -/
structure SwZ (w6 W : World) (xa xb ma mb : Nat) (A1 A2 : Option Addr) (c1 c2 : Nat) (q : Nat) (ls : List Value) (ka kb : Nat) (Ma Mb : BkMap) : Prop where
  off : Off [ma, mb] w6 W
  blk : BlkL W q ls
  a : BkX W xa A1 2 c1 tabL 4096 ma ka Ma
  b : BkX W xb A2 2 c2 tabL 4096 mb kb Mb
theorem SwZ.drew {w6 W : World} {xa xb ma mb : Nat} {A1 A2 : Option Addr} {c1 c2 q ka kb : Nat} {ls : List Value} {Ma Mb : BkMap} (h : SwZ w6 W xa xb ma mb A1 A2 c1 c2 q ls ka kb Ma Mb) : SwZ w6 W.drew xa xb ma mb A1 A2 c1 c2 q ls ka kb Ma Mb :=
  ⟨h.off.drew, h.blk.drew, h.a.below (Below.refl _ _).drew, h.b.below (Below.refl _ _).drew⟩
theorem bkx_map {w : World} {b n c room mb k : Nat} {A : Option Addr} {l : List PolM} {M : BkMap} (h : BkX w b A n c l room mb k M) : ∃ es ck, w.heap[mb]? = some (.map es ck) := by
  obtain ⟨D, hd1, _⟩ := h.e
  exact own_map hd1
section
variable {w6 W : World} {xa xb ma mb : Nat} {A1 A2 : Option Addr} {c1 c2 q ka kb : Nat} {ls : List Value} {Ma Mb : BkMap}
theorem SwZ.doA (h : SwZ w6 W xa xb ma mb A1 A2 c1 c2 q ls ka kb Ma Mb) (hne : ma ≠ mb) (h0 : ls[0]? ≠ none) (v : FitV) (hv : v.ok) (now : Nat) (hnow : now ≤ 4611686018427387903) (hkey : Arg W W.heap.size v.A v.m v.c v.zs) (hk : ka ≤ 4000) :
    Calls Try.prog 18 #[.pointer (some ⟨xa, 0, none⟩), .agg #[.int .u8 (v.o : Nat), .int .i64 (v.p : Nat), .slice v.A v.m v.c, .int .i64 v.N], .int .i64 (now : Nat), .int .i64 v.s] W
      fun e w' => ∃ (k' : Nat), e = .returned (repX (repF tabL Ma v.o v.p v.zs v.N now v.s ka k')) ∧ SwZ w6 w' xa xb ma mb A1 A2 c1 c2 q ls k' kb (actM tabL Ma v.o v.p v.zs v.N now v.s) Mb ∧ k' ≤ ka + 1 := by
  refine (do_abs h.a v hv rfl rfl rfl now hnow hkey (by omega) (fun _ => .inr (by omega))).mono ?_
  rintro e w' ⟨k', he, hb, hk', ho⟩
  obtain ⟨es, ck, hm⟩ := bkx_map h.a
  obtain ⟨u, hu⟩ := Option.ne_none_iff_exists'.1 h0
  exact ⟨k', he, ⟨h.off.trans (ho.mono (by simp)), h.blk.off ho (by simpa using cell_ne_map (p := ⟨q, 0, none⟩) (h.blk.cell 0 _ hu) hm), hb, h.b.other hm (Ne.symm hne) ho⟩, hk'⟩
theorem SwZ.doB (h : SwZ w6 W xa xb ma mb A1 A2 c1 c2 q ls ka kb Ma Mb) (hne : ma ≠ mb) (h0 : ls[0]? ≠ none) (v : FitV) (hv : v.ok) (now : Nat) (hnow : now ≤ 4611686018427387903) (hkey : Arg W W.heap.size v.A v.m v.c v.zs) (hk : kb ≤ 4000) :
    Calls Try.prog 18 #[.pointer (some ⟨xb, 0, none⟩), .agg #[.int .u8 (v.o : Nat), .int .i64 (v.p : Nat), .slice v.A v.m v.c, .int .i64 v.N], .int .i64 (now : Nat), .int .i64 v.s] W
      fun e w' => ∃ (k' : Nat), e = .returned (repX (repF tabL Mb v.o v.p v.zs v.N now v.s kb k')) ∧ SwZ w6 w' xa xb ma mb A1 A2 c1 c2 q ls ka k' Ma (actM tabL Mb v.o v.p v.zs v.N now v.s) ∧ k' ≤ kb + 1 := by
  refine (do_abs h.b v hv rfl rfl rfl now hnow hkey (by omega) (fun _ => .inr (by omega))).mono ?_
  rintro e w' ⟨k', he, hb, hk', ho⟩
  obtain ⟨es, ck, hm⟩ := bkx_map h.b
  obtain ⟨u, hu⟩ := Option.ne_none_iff_exists'.1 h0
  exact ⟨k', he, ⟨h.off.trans (ho.mono (by simp)), h.blk.off ho (by simpa using cell_ne_map (p := ⟨q, 0, none⟩) (h.blk.cell 0 _ hu) hm), h.a.other hm hne ho, hb⟩, hk'⟩
end
theorem SwZ.below {w6 W W' : World} {xa xb ma mb : Nat} {A1 A2 : Option Addr} {c1 c2 q ka kb : Nat} {ls : List Value} {Ma Mb : BkMap} (h : SwZ w6 W xa xb ma mb A1 A2 c1 c2 q ls ka kb Ma Mb) (hb : Below W.heap.size W W') : SwZ w6 W' xa xb ma mb A1 A2 c1 c2 q ls ka kb Ma Mb :=
  ⟨h.off.trans (Off.of_below hb), h.blk.below hb, h.a.below hb, h.b.below hb⟩
theorem repF_lt {l : List PolM} {M : BkMap} {o p : Nat} {zs : List Nat} {N : Int} {now : Nat} {s : Int} (k k' : Nat) (h : o < 5) : repF l M o p zs N now s k k' = (cellM (l.getD p noPol) (getB M (p :: zs)) o N now s).1 := by
  unfold repF; rw [if_pos (by omega)]
/-- The two calls in their boxes. -/
structure SwP (w0 W : World) (lx ly : List Value) : Prop where
  b : Below w0.heap.size w0 W
  x : BlkL W w0.heap.size lx
  y : BlkL W (w0.heap.size + 1) ly
theorem SwP.drew {w0 W : World} {lx ly : List Value} (h : SwP w0 W lx ly) : SwP w0 W.drew lx ly := ⟨h.b.drew, h.x.drew, h.y.drew⟩
theorem SwP.below {w0 W W' : World} {lx ly : List Value} (h : SwP w0 W lx ly) (hb : Below W.heap.size W W') : SwP w0 W' lx ly := ⟨h.b.trans (hb.mono h.b.size), h.x.below hb, h.y.below hb⟩
/-- Is there nothing to see? -/
def swB (x y : FitV) : Bool := decide (5 ≤ x.o) || (decide (5 ≤ y.o) || (decide (x.p = y.p) && decide (x.zs = y.zs)))
theorem swB_no {x y : FitV} (h : swB x y = false) : x.o < 5 ∧ y.o < 5 ∧ x.p :: x.zs ≠ y.p :: y.zs := by
  unfold swB at h
  simp only [Bool.or_eq_false_iff, decide_eq_false_iff_not, Bool.and_eq_false_iff] at h
  refine ⟨by omega, by omega, fun e => ?_⟩
  have e1 := (List.cons.inj e).1
  have e2 := (List.cons.inj e).2
  rcases h.2.2 with h | h
  · exact h e1
  · exact h e2

/-- Two books, and boxes beside them. -/
structure SwQ (w6 W : World) (xa xb ma mb : Nat) (A1 A2 : Option Addr) (c1 c2 : Nat) (Bx : List (Nat × List Value)) (ka kb : Nat) (Ma Mb : BkMap) : Prop where
  off : Off [ma, mb] w6 W
  blk : ∀ p ∈ Bx, BlkL W p.1 p.2 ∧ p.1 ≠ ma ∧ p.1 ≠ mb
  a : BkX W xa A1 2 c1 tabL 4096 ma ka Ma
  b : BkX W xb A2 2 c2 tabL 4096 mb kb Mb
section
variable {w6 W W' : World} {xa xb ma mb : Nat} {A1 A2 : Option Addr} {c1 c2 ka kb : Nat} {Bx : List (Nat × List Value)} {Ma Mb : BkMap}
theorem SwQ.below (h : SwQ w6 W xa xb ma mb A1 A2 c1 c2 Bx ka kb Ma Mb) (hb : Below W.heap.size W W') : SwQ w6 W' xa xb ma mb A1 A2 c1 c2 Bx ka kb Ma Mb :=
  ⟨h.off.trans (Off.of_below hb), fun p hp => ⟨(h.blk p hp).1.below hb, (h.blk p hp).2⟩, h.a.below hb, h.b.below hb⟩
theorem SwQ.push (h : SwQ w6 W xa xb ma mb A1 A2 c1 c2 Bx ka kb Ma Mb) (ls : List Value) (T : TypeId) : SwQ w6 (W.alloc (.cells ls.toArray T)) xa xb ma mb A1 A2 c1 c2 ((W.heap.size, ls) :: Bx) ka kb Ma Mb := by
  have hb := h.below (below_a1 W (.cells ls.toArray T))
  refine ⟨hb.off, fun p hp => ?_, hb.a, hb.b⟩
  rcases List.mem_cons.1 hp with rfl | hp
  · exact ⟨BlkL.new W ls T, Nat.ne_of_gt h.a.lt, Nat.ne_of_gt h.b.lt⟩
  · exact hb.blk p hp
theorem SwQ.doA (h : SwQ w6 W xa xb ma mb A1 A2 c1 c2 Bx ka kb Ma Mb) (hne : ma ≠ mb) (v : FitV) (hv : v.ok) (now : Nat) (hnow : now ≤ 4611686018427387903) (hkey : Arg W W.heap.size v.A v.m v.c v.zs) (hk : ka ≤ 4000) :
    Calls Try.prog 18 #[.pointer (some ⟨xa, 0, none⟩), .agg #[.int .u8 (v.o : Nat), .int .i64 (v.p : Nat), .slice v.A v.m v.c, .int .i64 v.N], .int .i64 (now : Nat), .int .i64 v.s] W
      fun e w' => ∃ (k' : Nat), e = .returned (repX (repF tabL Ma v.o v.p v.zs v.N now v.s ka k')) ∧ SwQ w6 w' xa xb ma mb A1 A2 c1 c2 Bx k' kb (actM tabL Ma v.o v.p v.zs v.N now v.s) Mb ∧ k' ≤ ka + 1 := by
  refine (do_abs h.a v hv rfl rfl rfl now hnow hkey (by omega) (fun _ => .inr (by omega))).mono ?_
  rintro e w' ⟨k', he, hb, hk', ho⟩
  obtain ⟨es, ck, hm⟩ := bkx_map h.a
  exact ⟨k', he, ⟨h.off.trans (ho.mono (by simp)), fun p hp => ⟨(h.blk p hp).1.off ho (by simpa using (h.blk p hp).2.1), (h.blk p hp).2⟩, hb, h.b.other hm (Ne.symm hne) ho⟩, hk'⟩
theorem SwQ.doB (h : SwQ w6 W xa xb ma mb A1 A2 c1 c2 Bx ka kb Ma Mb) (hne : ma ≠ mb) (v : FitV) (hv : v.ok) (now : Nat) (hnow : now ≤ 4611686018427387903) (hkey : Arg W W.heap.size v.A v.m v.c v.zs) (hk : kb ≤ 4000) :
    Calls Try.prog 18 #[.pointer (some ⟨xb, 0, none⟩), .agg #[.int .u8 (v.o : Nat), .int .i64 (v.p : Nat), .slice v.A v.m v.c, .int .i64 v.N], .int .i64 (now : Nat), .int .i64 v.s] W
      fun e w' => ∃ (k' : Nat), e = .returned (repX (repF tabL Mb v.o v.p v.zs v.N now v.s kb k')) ∧ SwQ w6 w' xa xb ma mb A1 A2 c1 c2 Bx ka k' Ma (actM tabL Mb v.o v.p v.zs v.N now v.s) ∧ k' ≤ kb + 1 := by
  refine (do_abs h.b v hv rfl rfl rfl now hnow hkey (by omega) (fun _ => .inr (by omega))).mono ?_
  rintro e w' ⟨k', he, hb, hk', ho⟩
  obtain ⟨es, ck, hm⟩ := bkx_map h.b
  exact ⟨k', he, ⟨h.off.trans (ho.mono (by simp)), fun p hp => ⟨(h.blk p hp).1.off ho (by simpa using (h.blk p hp).2.2), (h.blk p hp).2⟩, h.a.other hm hne ho, hb⟩, hk'⟩
end
theorem eqRepX (a b c d e : Int) (g : Bool) (w : World) : (binOp .eql 42 (.agg #[.int .i64 a, .bool g, .int .i64 b, .int .i64 c, .int .i64 d, .int .i64 e]) (.agg #[.int .i64 a, .bool g, .int .i64 b, .int .i64 c, .int .i64 d, .int .i64 e])).run Try.prog w = .ok (.bool true) w := by simp [go_sem, Result.andThen]

set_option maxHeartbeats 12800000 in
theorem bookSwaps_walk (A0 : Option Addr) (n0 c0 : Nat) (sc : List AskV) (x y : AskV) (w : World) (hsc : AskA w w.heap.size A0 n0 c0 sc) (hcap : c0 ≤ 2199023255488) (hx : Arg w w.heap.size x.A x.n x.c x.zs ∧ x.ok) (hy : Arg w w.heap.size y.A y.n y.c y.zs ∧ y.ok) :
    Calls Try.prog 9 #[.slice A0 n0 c0, .agg #[.int .u8 (x.op : Nat), .int .i64 x.q, .slice x.A x.n x.c, .int .i64 x.N, .int .i64 x.now, .int .i64 x.s], .agg #[.int .u8 (y.op : Nat), .int .i64 y.q, .slice y.A y.n y.c, .int .i64 y.N, .int .i64 y.now, .int .i64 y.s]] w (ValEnd w (.bool true)) := by
  obtain ⟨vx, hvx, kx, fx⟩ := fit_abs x hx
  obtain ⟨vy, hvy, ky, fy⟩ := fit_abs y hy
  have HVX := Lib.hid (And.intro hvx kx)
  have HVY := Lib.hid (And.intro hvy ky)
  have hp0 : SwP w ((w.alloc (.cells #[.int .u8 (x.op : Nat), .int .i64 x.q, .slice x.A x.n x.c, .int .i64 x.N, .int .i64 x.now, .int .i64 x.s] 39)).alloc (.cells #[.int .u8 (y.op : Nat), .int .i64 y.q, .slice y.A y.n y.c, .int .i64 y.N, .int .i64 y.now, .int .i64 y.s] 39)) [.int .u8 (x.op : Nat), .int .i64 x.q, .slice x.A x.n x.c, .int .i64 x.N, .int .i64 x.now, .int .i64 x.s] [.int .u8 (y.op : Nat), .int .i64 y.q, .slice y.A y.n y.c, .int .i64 y.N, .int .i64 y.now, .int .i64 y.s] :=
    ⟨below_a2 w _ _, (BlkL.new w [.int .u8 (x.op : Nat), .int .i64 x.q, .slice x.A x.n x.c, .int .i64 x.N, .int .i64 x.now, .int .i64 x.s] 39).alloc _, by have := BlkL.new (w.alloc (.cells #[.int .u8 (x.op : Nat), .int .i64 x.q, .slice x.A x.n x.c, .int .i64 x.N, .int .i64 x.now, .int .i64 x.s] 39)) [.int .u8 (y.op : Nat), .int .i64 y.q, .slice y.A y.n y.c, .int .i64 y.N, .int .i64 y.now, .int .i64 y.s] 39; simpa using this⟩
  have HP0 := Lib.hid hp0
  have HAw := Lib.hid (awake16_any ((w.alloc (.cells #[.int .u8 (x.op : Nat), .int .i64 x.q, .slice x.A x.n x.c, .int .i64 x.N, .int .i64 x.now, .int .i64 x.s] 39)).alloc (.cells #[.int .u8 (y.op : Nat), .int .i64 y.q, .slice y.A y.n y.c, .int .i64 y.N, .int .i64 y.now, .int .i64 y.s] 39)))
  have HFX := Lib.hid (fun W (hW : SwP w W [.int .u8 (x.op : Nat), .int .i64 x.q, .slice x.A x.n x.c, .int .i64 x.N, .int .i64 x.now, .int .i64 x.s] [.int .u8 (y.op : Nat), .int .i64 y.q, .slice y.A y.n y.c, .int .i64 y.N, .int .i64 y.now, .int .i64 y.s]) => show Calls Try.prog 17 #[.agg #[.int .u8 (x.op : Nat), .int .i64 x.q, .slice x.A x.n x.c, .int .i64 x.N, .int .i64 x.now, .int .i64 x.s]] W (fun e w' => e = .returned (.agg #[.int .u8 (vx.o : Nat), .int .i64 (vx.p : Nat), .slice vx.A vx.m vx.c, .int .i64 vx.N, .int .i64 (vx.nw : Nat), .int .i64 vx.s]) ∧ SwP w w' [.int .u8 (x.op : Nat), .int .i64 x.q, .slice x.A x.n x.c, .int .i64 x.N, .int .i64 x.now, .int .i64 x.s] [.int .u8 (y.op : Nat), .int .i64 y.q, .slice y.A y.n y.c, .int .i64 y.N, .int .i64 y.now, .int .i64 y.s]) from
    (fx W).mono fun e w' ⟨he, hb⟩ => ⟨he, hW.below hb⟩)
  have HFY := Lib.hid (fun W (hW : SwP w W [.int .u8 (x.op : Nat), .int .i64 x.q, .slice x.A x.n x.c, .int .i64 x.N, .int .i64 x.now, .int .i64 x.s] [.int .u8 (y.op : Nat), .int .i64 y.q, .slice y.A y.n y.c, .int .i64 y.N, .int .i64 y.now, .int .i64 y.s]) => show Calls Try.prog 17 #[.agg #[.int .u8 (y.op : Nat), .int .i64 y.q, .slice y.A y.n y.c, .int .i64 y.N, .int .i64 y.now, .int .i64 y.s]] W (fun e w' => e = .returned (.agg #[.int .u8 (vy.o : Nat), .int .i64 (vy.p : Nat), .slice vy.A vy.m vy.c, .int .i64 vy.N, .int .i64 (vy.nw : Nat), .int .i64 vy.s]) ∧ SwP w w' [.int .u8 (x.op : Nat), .int .i64 x.q, .slice x.A x.n x.c, .int .i64 x.N, .int .i64 x.now, .int .i64 x.s] [.int .u8 (y.op : Nat), .int .i64 y.q, .slice y.A y.n y.c, .int .i64 y.N, .int .i64 y.now, .int .i64 y.s]) from
    (fy W).mono fun e w' ⟨he, hb⟩ => ⟨he, hW.below hb⟩)
  have HSC := Lib.hid hsc
  have HN := Lib.hid tab_new
  have HT := Lib.hid table_any
  have hle0 : n0 ≤ c0 := hsc.arg.le
  clear hsc hx hy hvx kx fx hvy ky fy hp0
  go_enter Try.func9, Try.ntmps9
  go_wp2_with fail
  with_reducible refine (HAw.out).mono ?_
  rintro e w1 ⟨rfl, hb1⟩
  have hp1 := HP0.out.below hb1
  have hp1d := hp1.drew
  have a0 := hp1.x.cell 0 _ rfl
  have a1 := hp1.x.cell 1 _ rfl
  have a2 := hp1.x.cell 2 _ rfl
  have a3 := hp1.x.cell 3 _ rfl
  have a4 := hp1.x.cell 4 _ rfl
  have a5 := hp1.x.cell 5 _ rfl
  have b0 := hp1.y.cell 0 _ rfl
  have b1 := hp1.y.cell 1 _ rfl
  have b2 := hp1.y.cell 2 _ rfl
  have b3 := hp1.y.cell 3 _ rfl
  have b4 := hp1.y.cell 4 _ rfl
  have b5 := hp1.y.cell 5 _ rfl
  clear hb1 HAw HP0 hp1
  go_upto_region 3 with (fail)
  go_cut [20, 22] (fun s20 s22 wx => s20 = .agg #[.int .u8 (vx.o : Nat), .int .i64 (vx.p : Nat), .slice vx.A vx.m vx.c, .int .i64 vx.N, .int .i64 (vx.nw : Nat), .int .i64 vx.s] ∧ s22 = .agg #[.int .u8 (vy.o : Nat), .int .i64 (vy.p : Nat), .slice vy.A vy.m vy.c, .int .i64 vy.N, .int .i64 (vy.nw : Nat), .int .i64 vy.s] ∧ SwP w wx [.int .u8 (vx.o : Nat), .int .i64 (vx.p : Nat), .slice vx.A vx.m vx.c, .int .i64 vx.N, .int .i64 (vx.nw : Nat), .int .i64 vx.s] [.int .u8 (vy.o : Nat), .int .i64 (vy.p : Nat), .slice vy.A vy.m vy.c, .int .i64 vy.N, .int .i64 (vy.nw : Nat), .int .i64 vy.s])
  case first =>
    go_region_with (first | (with_reducible refine (HFX.out _ (by assumption)).mono ?_; rintro e w2 ⟨rfl, hp⟩; have a0 := hp.x.cell 0 _ rfl; have a1 := hp.x.cell 1 _ rfl; have a2 := hp.x.cell 2 _ rfl; have a3 := hp.x.cell 3 _ rfl; have a4 := hp.x.cell 4 _ rfl; have a5 := hp.x.cell 5 _ rfl; have b0 := hp.y.cell 0 _ rfl; have b1 := hp.y.cell 1 _ rfl; have b2 := hp.y.cell 2 _ rfl; have b3 := hp.y.cell 3 _ rfl; have b4 := hp.y.cell 4 _ rfl; have b5 := hp.y.cell 5 _ rfl; have fa0 := hp.x.froz 0 (by simp); have fa1 := hp.x.froz 1 (by simp); have fa2 := hp.x.froz 2 (by simp); have fa3 := hp.x.froz 3 (by simp); have fa4 := hp.x.froz 4 (by simp); have fa5 := hp.x.froz 5 (by simp); have fb0 := hp.y.froz 0 (by simp); have fb1 := hp.y.froz 1 (by simp); have fb2 := hp.y.froz 2 (by simp); have fb3 := hp.y.froz 3 (by simp); have fb4 := hp.y.froz 4 (by simp); have fb5 := hp.y.froz 5 (by simp); have zl := hp.y.lt) | (with_reducible refine (HFY.out _ (by assumption)).mono ?_; rintro e w2 ⟨rfl, hp⟩; have a0 := hp.x.cell 0 _ rfl; have a1 := hp.x.cell 1 _ rfl; have a2 := hp.x.cell 2 _ rfl; have a3 := hp.x.cell 3 _ rfl; have a4 := hp.x.cell 4 _ rfl; have a5 := hp.x.cell 5 _ rfl; have b0 := hp.y.cell 0 _ rfl; have b1 := hp.y.cell 1 _ rfl; have b2 := hp.y.cell 2 _ rfl; have b3 := hp.y.cell 3 _ rfl; have b4 := hp.y.cell 4 _ rfl; have b5 := hp.y.cell 5 _ rfl; have fa0 := hp.x.froz 0 (by simp); have fa1 := hp.x.froz 1 (by simp); have fa2 := hp.x.froz 2 (by simp); have fa3 := hp.x.froz 3 (by simp); have fa4 := hp.x.froz 4 (by simp); have fa5 := hp.x.froz 5 (by simp); have fb0 := hp.y.froz 0 (by simp); have fb1 := hp.y.froz 1 (by simp); have fb2 := hp.y.froz 2 (by simp); have fb3 := hp.y.froz 3 (by simp); have fb4 := hp.y.froz 4 (by simp); have fb5 := hp.y.froz 5 (by simp); have zl := hp.y.lt))
    all_goals
      have k1 := (hp.x.put6 (.int .u8 (vx.o : Nat)) (.int .i64 (vx.p : Nat)) (.slice vx.A vx.m vx.c) (.int .i64 vx.N) (.int .i64 (vx.nw : Nat)) (.int .i64 vx.s)).other6 (b' := w.heap.size + 1) (by omega) (.int .u8 (vy.o : Nat)) (.int .i64 (vy.p : Nat)) (.slice vy.A vy.m vy.c) (.int .i64 vy.N) (.int .i64 (vy.nw : Nat)) (.int .i64 vy.s)
      have k2 := (hp.y.other6 (b' := w.heap.size) (by omega) (.int .u8 (vx.o : Nat)) (.int .i64 (vx.p : Nat)) (.slice vx.A vx.m vx.c) (.int .i64 vx.N) (.int .i64 (vx.nw : Nat)) (.int .i64 vx.s)).put6 (.int .u8 (vy.o : Nat)) (.int .i64 (vy.p : Nat)) (.slice vy.A vy.m vy.c) (.int .i64 vy.N) (.int .i64 (vy.nw : Nat)) (.int .i64 vy.s)
      have hb := below_put6 (below_put6 hp.b (b := w.heap.size) (Nat.le_refl _) (.int .u8 (vx.o : Nat)) (.int .i64 (vx.p : Nat)) (.slice vx.A vx.m vx.c) (.int .i64 vx.N) (.int .i64 (vx.nw : Nat)) (.int .i64 vx.s)) (b := w.heap.size + 1) (by omega) (.int .u8 (vy.o : Nat)) (.int .i64 (vy.p : Nat)) (.slice vy.A vy.m vy.c) (.int .i64 vy.N) (.int .i64 (vy.nw : Nat)) (.int .i64 vy.s)
      go_wp2_with fail
      go_meet
      exact ⟨rfl, rfl, hb, k1, k2⟩
  case rest =>
    obtain ⟨rfl, rfl, hp2⟩ := hcut
    have HP2 := Lib.hid hp2
    have a0 := hp2.x.cell 0 _ rfl
    have a1 := hp2.x.cell 1 _ rfl
    have a2 := hp2.x.cell 2 _ rfl
    have b0 := hp2.y.cell 0 _ rfl
    have b1 := hp2.y.cell 1 _ rfl
    have b2 := hp2.y.cell 2 _ rfl
    clear hp2 hp1d HFX HFY
    go_upto_region 4 with (fail)
    go_cut [50] (fun s50 wx => s50 = .bool (swB vx vy) ∧ SwP w wx [.int .u8 (vx.o : Nat), .int .i64 (vx.p : Nat), .slice vx.A vx.m vx.c, .int .i64 vx.N, .int .i64 (vx.nw : Nat), .int .i64 vx.s] [.int .u8 (vy.o : Nat), .int .i64 (vy.p : Nat), .slice vy.A vy.m vy.c, .int .i64 vy.N, .int .i64 (vy.nw : Nat), .int .i64 vy.s])
    case first =>
      by_cases hx5 : 5 ≤ vx.o
      · have hr : swB vx vy = true := by unfold swB; rw [decide_eq_true hx5]; rfl
        have d1 : (5 : Int) ≤ (vx.o : Int) := by omega
        have HR := Lib.hid hr
        clear hr
        go_wp2_with fail
        go_meet
        exact ⟨by rw [HR.out], HP2.out⟩
      · have d1 : ¬ (5 : Int) ≤ (vx.o : Int) := by omega
        by_cases hy5 : 5 ≤ vy.o
        · have hr : swB vx vy = true := by unfold swB; rw [decide_eq_true hy5, decide_eq_false hx5]; rfl
          have d2 : (5 : Int) ≤ (vy.o : Int) := by omega
          have HR := Lib.hid hr
          clear hr
          go_wp2_with fail
          go_meet
          exact ⟨by rw [HR.out], HP2.out⟩
        · have d2 : ¬ (5 : Int) ≤ (vy.o : Int) := by omega
          by_cases hp : vx.p = vy.p
          · have d3 : ((vx.p : Int) == (vy.p : Int)) = true := by rw [hp]; simp
            obtain ⟨r, hr⟩ : ∃ r, decide (vx.zs = vy.zs) = r := ⟨_, rfl⟩
            have hs : swB vx vy = r := by unfold swB; rw [decide_eq_false hy5, decide_eq_false hx5, decide_eq_true hp, hr]; simp
            have HSB := Lib.hid (same_any wc w.heap.size w.heap.size vx.A vy.A vx.m vx.c vy.m vy.c vx.zs vy.zs r hr (HVX.out.2.below HP2.out.b) (HVY.out.2.below HP2.out.b))
            have HS := Lib.hid hs
            clear hs hr hp
            go_wp2_with fail
            refine HSB.out.mono ?_
            rintro e w2 ⟨rfl, t, rfl⟩
            go_wp2_with fail
            go_meet
            exact ⟨by rw [HS.out], ⟨below_drewN HP2.out.b t, HP2.out.x.drewN t, HP2.out.y.drewN t⟩⟩
          · have d3 : ((vx.p : Int) == (vy.p : Int)) = false := beq_eq_false_iff_ne.2 (by omega)
            have hs : swB vx vy = false := by unfold swB; rw [decide_eq_false hy5, decide_eq_false hx5, decide_eq_false hp]; rfl
            have HS := Lib.hid hs
            clear hs
            go_wp2_with fail
            go_meet
            exact ⟨by rw [HS.out], HP2.out⟩
    case rest =>
      obtain ⟨rfl, hq⟩ := hcut
      have HQ := Lib.hid hq
      clear hq a0 a1 a2 b0 b1 b2 HP2
      rcases hr : swB vx vy with _ | _
      · have HNE := Lib.hid (swB_no hr)
        clear hr
        go_wp2_with fail
        refine (HT.out wc).mono ?_
        rintro e w2 ⟨rfl, rfl⟩
        go_wp2_with fail
        refine (HN.out wc).mono ?_
        rintro e w2 ⟨xa, A1, ca, ma, rfl, hxa, hma, hb2⟩
        have HB2 := Lib.hid hb2
        have HXa := Lib.hid hxa
        have HMa := Lib.hid hma
        clear hb2 hxa hma
        go_wp2_with fail
        refine (HT.out w2).mono ?_
        rintro e w3 ⟨rfl, rfl⟩
        go_wp2_with fail
        refine (HN.out w2).mono ?_
        rintro e w3 ⟨xb, A2, cb, mb, rfl, hxb, hmb, hb3⟩
        have hAp : SwR wc w3 xa xb ma mb A1 A2 ca cb 0 :=
          ⟨HB2.out.trans (hb3.mono HB2.out.size), by have := HXa.out.lt; omega, HMa.out, Nat.le_trans HB2.out.size hmb, ⟨0, _, HXa.out.below hb3, hxb, Nat.le_refl _⟩⟩
        have HAp := Lib.hid hAp
        clear hxb hmb hb3 hAp HXa HMa HB2 HT HN
        go_wp2_with fail
        go_loopw [69] (fun iv wr => ∃ j : Nat, j ≤ n0 ∧ j ≤ 100 ∧ iv = .int .i64 (j : Int) ∧ SwR wc wr xa xb ma mb A1 A2 ca cb j) (fun iv _ => n0 - (intOf iv).toNat)
        case atStart => exact ⟨0, Nat.zero_le _, Nat.zero_le _, rfl, HAp.out⟩
        case round =>
          obtain ⟨j, hj, hj100, rfl, hap⟩ := hrel
          have HP := Lib.hid hap
          clear hap HAp
          rcases Nat.lt_or_ge j n0 with h1 | h1
          · have hln := HSC.out.len
            have hkk := HSC.out.key _ (ask_mem (l := sc) (i := j) (by omega))
            have hlw : Below w.heap.size w wr := HQ.out.b.trans (HP.out.low.mono HQ.out.b.size)
            obtain ⟨b, off, rfl, hbB, hcc⟩ := ((HSC.out.below hlw).arg).at_ (by omega)
            have hf := fun t ht => FA_at sc j t (by omega) ht
            have e0 := (hcc (j * 6) (by omega)).trans (hf 0 (by omega))
            have e1 := (hcc (j * 6 + 1) (by omega)).trans (hf 1 (by omega))
            have e2 := (hcc (j * 6 + 2) (by omega)).trans (hf 2 (by omega))
            have e3 := (hcc (j * 6 + 3) (by omega)).trans (hf 3 (by omega))
            have e4 := (hcc (j * 6 + 4) (by omega)).trans (hf 4 (by omega))
            have e5 := (hcc (j * 6 + 5) (by omega)).trans (hf 5 (by omega))
            clear hcc hf hln hbB
            generalize sc.getD j noAsk = a at hkk e0 e1 e2 e3 e4 e5
            obtain ⟨v, hv, kv, fv⟩ := fit_abs a hkk
            obtain ⟨aop, aq, aA, an, ac, azs, aN, anow, asr⟩ := a
            simp only [AskV.cells, List.getElem?_cons_zero, List.getElem?_cons_succ] at e0 e1 e2 e3 e4 e5
            have e1 : wr.cell? ⟨b, off + j * 6 + 1, none⟩ = some (.int .i64 aq) := e1
            have e2 : wr.cell? ⟨b, off + j * 6 + 2, none⟩ = some (.slice aA an ac) := e2
            have e3 : wr.cell? ⟨b, off + j * 6 + 3, none⟩ = some (.int .i64 aN) := e3
            have e4 : wr.cell? ⟨b, off + j * 6 + 4, none⟩ = some (.int .i64 anow) := e4
            have e5 : wr.cell? ⟨b, off + j * 6 + 5, none⟩ = some (.int .i64 asr) := e5
            have HLW := Lib.hid hlw
            have HV := Lib.hid (And.intro hv kv)
            have HF := Lib.hid fv
            clear hkk hv kv fv hlw
            rcases Nat.lt_or_ge j 100 with h2 | h2
            · go_wp2_with fail
              refine (HF.out _).mono ?_
              rintro e w5 ⟨rfl, hb5⟩
              have k0 := (BlkL.new wr [.int .u8 (aop : Nat), .int .i64 aq, .slice aA an ac, .int .i64 aN, .int .i64 anow, .int .i64 asr] 39).below hb5
              have HB5 := Lib.hid ((below_a1 wr (.cells #[.int .u8 (aop : Nat), .int .i64 aq, .slice aA an ac, .int .i64 aN, .int .i64 anow, .int .i64 asr] 39)).trans (hb5.mono (by simp)))
              clear hb5 e0 e1 e2 e3 e4 e5 HF
              have c0 := k0.cell 0 _ rfl
              have c1 := k0.cell 1 _ rfl
              have c2 := k0.cell 2 _ rfl
              have c3 := k0.cell 3 _ rfl
              have c4 := k0.cell 4 _ rfl
              have c5 := k0.cell 5 _ rfl
              have f0 := k0.froz 0 (by simp)
              have f1 := k0.froz 1 (by simp)
              have f2 := k0.froz 2 (by simp)
              have f3 := k0.froz 3 (by simp)
              have f4 := k0.froz 4 (by simp)
              have f5 := k0.froz 5 (by simp)
              have K0 := Lib.hid k0
              clear k0
              go_wp2_with fail
              have kbx := K0.out.put6 (.int .u8 (v.o : Nat)) (.int .i64 (v.p : Nat)) (.slice v.A v.m v.c) (.int .i64 v.N) (.int .i64 (v.nw : Nat)) (.int .i64 v.s)
              have hbx := below_put6 HB5.out (b := wr.heap.size) (Nat.le_refl _) (.int .u8 (v.o : Nat)) (.int .i64 (v.p : Nat)) (.slice v.A v.m v.c) (.int .i64 v.N) (.int .i64 (v.nw : Nat)) (.int .i64 v.s)
              clear c0 c1 c2 c3 c4 c5 f0 f1 f2 f3 f4 f5 K0 HB5
              generalize World.setCell _ _ _ = WB at kbx hbx ⊢
              obtain ⟨k, M, hA, hB, hk⟩ := HP.out.st
              have hz0 : SwZ wr WB xa xb ma mb A1 A2 ca cb wr.heap.size [.int .u8 (v.o : Nat), .int .i64 (v.p : Nat), .slice v.A v.m v.c, .int .i64 v.N, .int .i64 (v.nw : Nat), .int .i64 v.s] k k M M := ⟨Off.of_below hbx, kbx, hA.below hbx, hB.below hbx⟩
              have hzd := hz0.drew
              have hne := HP.out.ne
              have HA := Lib.hid (fun W (hW : SwZ wr W xa xb ma mb A1 A2 ca cb wr.heap.size [.int .u8 (v.o : Nat), .int .i64 (v.p : Nat), .slice v.A v.m v.c, .int .i64 v.N, .int .i64 (v.nw : Nat), .int .i64 v.s] k k M M) (hs : Arg W W.heap.size v.A v.m v.c v.zs) => hW.doA hne (by simp) v HV.out.1 v.nw HV.out.1.nw hs (by omega))
              have HBd := Lib.hid (fun W k1 Ma (hW : SwZ wr W xa xb ma mb A1 A2 ca cb wr.heap.size [.int .u8 (v.o : Nat), .int .i64 (v.p : Nat), .slice v.A v.m v.c, .int .i64 v.N, .int .i64 (v.nw : Nat), .int .i64 v.s] k1 k Ma M) (hs : Arg W W.heap.size v.A v.m v.c v.zs) => hW.doB hne (by simp) v HV.out.1 v.nw HV.out.1.nw hs (by omega))
              have hs0 : Arg WB.drew WB.drew.heap.size v.A v.m v.c v.zs := ((HV.out.2.below HLW.out).below ((hbx.drew).mono HLW.out.size)).more (Nat.le_trans HLW.out.size hbx.size)
              have HKY := Lib.hid (fun W (hW : Off [ma, mb] wr W) => show Arg W W.heap.size v.A v.m v.c v.zs from ((HV.out.2.below HLW.out).below (hW.below HLW.out.size (by intro x hx; have g1 := HP.out.ga; have g2 := HP.out.gb; have g3 := HQ.out.b.size; simp at hx; omega))).more (Nat.le_trans HLW.out.size hW.size))
              have c0 := kbx.cell 0 _ rfl
              have c1 := kbx.cell 1 _ rfl
              have c2 := kbx.cell 2 _ rfl
              have c3 := kbx.cell 3 _ rfl
              have c4 := kbx.cell 4 _ rfl
              have c5 := kbx.cell 5 _ rfl
              have HH := Lib.hid (And.intro hbx hk)
              have hneq := neqRepX
              clear hA hB hk kbx hbx hz0
              go_region_held3 (fun W => W.cell? ⟨wr.heap.size, 0, none⟩ = some (.int .u8 (v.o : Nat)) ∧ W.cell? ⟨wr.heap.size, 1, none⟩ = some (.int .i64 (v.p : Nat)) ∧ W.cell? ⟨wr.heap.size, 2, none⟩ = some (.slice v.A v.m v.c) ∧ W.cell? ⟨wr.heap.size, 3, none⟩ = some (.int .i64 v.N) ∧ W.cell? ⟨wr.heap.size, 4, none⟩ = some (.int .i64 (v.nw : Nat)) ∧ W.cell? ⟨wr.heap.size, 5, none⟩ = some (.int .i64 v.s)) (first | (exact ⟨(by with_reducible assumption), (by with_reducible assumption), (by with_reducible assumption), (by with_reducible assumption), (by with_reducible assumption), (by with_reducible assumption)⟩) | go_keep) (first | (with_reducible refine (HA.out _ (by assumption) (by assumption)).mono ?_; rintro e w8 ⟨k1, rfl, hz1, hk1⟩; have hs1 := HKY.out w8 hz1.off; clear c0 c1 c2 c3 c4 c5; have c0 := hz1.blk.cell 0 _ rfl; have c1 := hz1.blk.cell 1 _ rfl; have c2 := hz1.blk.cell 2 _ rfl; have c3 := hz1.blk.cell 3 _ rfl; have c4 := hz1.blk.cell 4 _ rfl; have c5 := hz1.blk.cell 5 _ rfl) | (with_reducible refine (HBd.out _ _ _ (by assumption) (by assumption)).mono ?_; rintro e w9 ⟨k2, rfl, hz2, hk2⟩; obtain rfl := cnt_uniq hz2.a hz2.b; have HZ2 := Lib.hid hz2; have HK2 := Lib.hid hk2; clear c0 c1 c2 c3 c4 c5; have c0 := hz2.blk.cell 0 _ rfl; have c1 := hz2.blk.cell 1 _ rfl; have c2 := hz2.blk.cell 2 _ rfl; have c3 := hz2.blk.cell 3 _ rfl; have c4 := hz2.blk.cell 4 _ rfl; have c5 := hz2.blk.cell 5 _ rfl; clear hz2 hk2))
              go_wp2
              go_roundw
              case rel => exact ⟨j + 1, by omega, by omega, by push_cast; rfl, ⟨HP.out.low.trans (HZ2.out.off.below HP.out.low.size (by intro x hx; have g1 := HP.out.ga; have g2 := HP.out.gb; simp at hx; omega)), hne, HP.out.ga, HP.out.gb, ⟨k1, _, HZ2.out.a, HZ2.out.b, by have := HH.out.2; omega⟩⟩⟩
              case measure => simp [intOf]; omega
            · have hR := HP.out
              have hb9 := below_a1 wr (.cells #[.int .u8 (aop : Nat), .int .i64 aq, .slice aA an ac, .int .i64 aN, .int .i64 anow, .int .i64 asr] 39)
              have HR0 : Hid (SwR wc (wr.alloc (.cells #[.int .u8 (aop : Nat), .int .i64 aq, .slice aA an ac, .int .i64 aN, .int .i64 anow, .int .i64 asr] 39)) xa xb ma mb A1 A2 ca cb 100) := Lib.hid ⟨hR.low.trans (hb9.mono hR.low.size), hR.ne, hR.ga, hR.gb, by obtain ⟨k, M, g1, g2, g3⟩ := hR.st; exact ⟨k, M, g1.below hb9, g2.below hb9, by omega⟩⟩
              clear hR hb9
              go_upto_region 18 with (fail)
              clear e0 e1 e2 e3 e4 e5
              generalize World.alloc _ _ = W0 at HR0 ⊢
              obtain ⟨k, M, hA, hB, hk⟩ := HR0.out.st
              have hne := HR0.out.ne
              obtain ⟨n1, n2, n3⟩ := HNE.out
              have hsz := HQ.out.y.lt
              have hga := HR0.out.ga
              have hgb := HR0.out.gb
              have hlow := HQ.out.b.trans (HR0.out.low.mono HQ.out.b.size)
              have q0 : SwQ W0 W0 xa xb ma mb A1 A2 ca cb [(w.heap.size, [.int .u8 (vx.o : Nat), .int .i64 (vx.p : Nat), .slice vx.A vx.m vx.c, .int .i64 vx.N, .int .i64 (vx.nw : Nat), .int .i64 vx.s]), (w.heap.size + 1, [.int .u8 (vy.o : Nat), .int .i64 (vy.p : Nat), .slice vy.A vy.m vy.c, .int .i64 vy.N, .int .i64 (vy.nw : Nat), .int .i64 vy.s])] k k M M :=
                ⟨Off.refl _ _, fun p hp => by
                  rcases List.mem_cons.1 hp with rfl | hp
                  · exact ⟨HQ.out.x.below HR0.out.low, by simp only; omega, by simp only; omega⟩
                  · obtain rfl := List.mem_singleton.1 hp
                    exact ⟨HQ.out.y.below HR0.out.low, by simp only; omega, by simp only; omega⟩, hA, hB⟩
              have HLL := Lib.hid hlow
              have HKX := Lib.hid (fun W (hW : Off [ma, mb] W0 W) => show Arg W W.heap.size vx.A vx.m vx.c vx.zs from ((HVX.out.2.below HLL.out).below (hW.below HLL.out.size (by intro x hx; simp at hx; omega))).more (Nat.le_trans HLL.out.size hW.size))
              have HKY := Lib.hid (fun W (hW : Off [ma, mb] W0 W) => show Arg W W.heap.size vy.A vy.m vy.c vy.zs from ((HVY.out.2.below HLL.out).below (hW.below HLL.out.size (by intro x hx; simp at hx; omega))).more (Nat.le_trans HLL.out.size hW.size))
              obtain ⟨X, hX⟩ : ∃ X, X = cellM (tabL.getD vx.p noPol) (getB M (vx.p :: vx.zs)) vx.o vx.N vx.nw vx.s := ⟨_, rfl⟩
              obtain ⟨Y, hY⟩ : ∃ Y, Y = cellM (tabL.getD vy.p noPol) (getB M (vy.p :: vy.zs)) vy.o vy.N vy.nw vy.s := ⟨_, rfl⟩
              have E1 := Lib.hid (fun k k' => show repF tabL M vx.o vx.p vx.zs vx.N vx.nw vx.s k k' = X.1 from by rw [repF_lt k k' n1, hX])
              have E2 := Lib.hid (fun k k' => show repF tabL M vy.o vy.p vy.zs vy.N vy.nw vy.s k k' = Y.1 from by rw [repF_lt k k' n2, hY])
              have E3 := Lib.hid (fun k k' => show repF tabL (afterB M (vx.p :: vx.zs) X) vy.o vy.p vy.zs vy.N vy.nw vy.s k k' = Y.1 from by rw [repF_lt k k' n2, get_after_ne X (Ne.symm n3), hY])
              have E4 := Lib.hid (fun k k' => show repF tabL (afterB M (vy.p :: vy.zs) Y) vx.o vx.p vx.zs vx.N vx.nw vx.s k k' = X.1 from by rw [repF_lt k k' n1, get_after_ne Y n3, hX])
              have F1 : actM tabL M vx.o vx.p vx.zs vx.N vx.nw vx.s = afterB M (vx.p :: vx.zs) X := by rw [actM_lt _ _ _ _ _ _ _ _ n1, hX]
              have F2 : actM tabL M vy.o vy.p vy.zs vy.N vy.nw vy.s = afterB M (vy.p :: vy.zs) Y := by rw [actM_lt _ _ _ _ _ _ _ _ n2, hY]
              have F3 : actM tabL (afterB M (vx.p :: vx.zs) X) vy.o vy.p vy.zs vy.N vy.nw vy.s = afterB (afterB M (vx.p :: vx.zs) X) (vy.p :: vy.zs) Y := by rw [actM_lt _ _ _ _ _ _ _ _ n2, get_after_ne X (Ne.symm n3), hY]
              have F4 : actM tabL (afterB M (vy.p :: vy.zs) Y) vx.o vx.p vx.zs vx.N vx.nw vx.s = afterB (afterB M (vx.p :: vx.zs) X) (vy.p :: vy.zs) Y := by rw [actM_lt _ _ _ _ _ _ _ _ n1, get_after_ne Y n3, ← hX, after_comm M Y X (Ne.symm n3)]
              have HFF := Lib.hid (And.intro F1 (And.intro F2 (And.intro F3 F4)))
              have HD := Lib.hid (q0.doA hne vx HVX.out.1 vx.nw HVX.out.1.nw (HKX.out W0 q0.off) (by omega))
              have a0 := (q0.blk _ (List.Mem.head _)).1.cell 0 _ rfl
              have a1 := (q0.blk _ (List.Mem.head _)).1.cell 1 _ rfl
              have a2 := (q0.blk _ (List.Mem.head _)).1.cell 2 _ rfl
              have a3 := (q0.blk _ (List.Mem.head _)).1.cell 3 _ rfl
              have a4 := (q0.blk _ (List.Mem.head _)).1.cell 4 _ rfl
              have a5 := (q0.blk _ (List.Mem.head _)).1.cell 5 _ rfl
              clear F1 F2 F3 F4 hX hY hA hB hlow hsz hga hgb n1 n2 n3 q0
              go_wp2_with fail
              refine HD.out.mono ?_
              rintro e w2 ⟨k1, rfl, hz, hk1⟩
              rw [HFF.out.1] at hz
              rw [E1.out]
              have hq := hz.push [.int .i64 X.1.e, .bool X.1.g, .int .i64 X.1.l, .int .i64 X.1.wt, .int .i64 X.1.s, .int .i64 X.1.now] 42
              have HQN := Lib.hid hq
              clear HD hz
              have HD := Lib.hid (hq.doA hne vy HVY.out.1 vy.nw HVY.out.1.nw (HKY.out _ hq.off) (by omega))
              clear a0 a1 a2 a3 a4 a5
              have b0 := (hq.blk _ (List.Mem.tail _ (List.Mem.tail _ (List.Mem.head _)))).1.cell 0 _ rfl
              have b1 := (hq.blk _ (List.Mem.tail _ (List.Mem.tail _ (List.Mem.head _)))).1.cell 1 _ rfl
              have b2 := (hq.blk _ (List.Mem.tail _ (List.Mem.tail _ (List.Mem.head _)))).1.cell 2 _ rfl
              have b3 := (hq.blk _ (List.Mem.tail _ (List.Mem.tail _ (List.Mem.head _)))).1.cell 3 _ rfl
              have b4 := (hq.blk _ (List.Mem.tail _ (List.Mem.tail _ (List.Mem.head _)))).1.cell 4 _ rfl
              have b5 := (hq.blk _ (List.Mem.tail _ (List.Mem.tail _ (List.Mem.head _)))).1.cell 5 _ rfl
              clear hq HQN
              go_wp2_with fail
              refine HD.out.mono ?_
              rintro e w3 ⟨k2, rfl, hz, hk2⟩
              rw [HFF.out.2.2.1] at hz
              rw [E3.out]
              have hq := hz.push [.int .i64 Y.1.e, .bool Y.1.g, .int .i64 Y.1.l, .int .i64 Y.1.wt, .int .i64 Y.1.s, .int .i64 Y.1.now] 42
              have HQN := Lib.hid hq
              clear HD hz
              have HD := Lib.hid (hq.doB hne vy HVY.out.1 vy.nw HVY.out.1.nw (HKY.out _ hq.off) (by omega))
              clear b0 b1 b2 b3 b4 b5
              have b0 := (hq.blk _ (List.Mem.tail _ (List.Mem.tail _ (List.Mem.tail _ (List.Mem.head _))))).1.cell 0 _ rfl
              have b1 := (hq.blk _ (List.Mem.tail _ (List.Mem.tail _ (List.Mem.tail _ (List.Mem.head _))))).1.cell 1 _ rfl
              have b2 := (hq.blk _ (List.Mem.tail _ (List.Mem.tail _ (List.Mem.tail _ (List.Mem.head _))))).1.cell 2 _ rfl
              have b3 := (hq.blk _ (List.Mem.tail _ (List.Mem.tail _ (List.Mem.tail _ (List.Mem.head _))))).1.cell 3 _ rfl
              have b4 := (hq.blk _ (List.Mem.tail _ (List.Mem.tail _ (List.Mem.tail _ (List.Mem.head _))))).1.cell 4 _ rfl
              have b5 := (hq.blk _ (List.Mem.tail _ (List.Mem.tail _ (List.Mem.tail _ (List.Mem.head _))))).1.cell 5 _ rfl
              clear hq HQN
              go_wp2_with fail
              refine HD.out.mono ?_
              rintro e w4 ⟨k3, rfl, hz, hk3⟩
              rw [HFF.out.2.1] at hz
              rw [E2.out]
              have hq := hz.push [.int .i64 Y.1.e, .bool Y.1.g, .int .i64 Y.1.l, .int .i64 Y.1.wt, .int .i64 Y.1.s, .int .i64 Y.1.now] 42
              have HQN := Lib.hid hq
              clear HD hz
              have HD := Lib.hid (hq.doB hne vx HVX.out.1 vx.nw HVX.out.1.nw (HKX.out _ hq.off) (by omega))
              clear b0 b1 b2 b3 b4 b5
              have a0 := (hq.blk _ (List.Mem.tail _ (List.Mem.tail _ (List.Mem.tail _ (List.Mem.head _))))).1.cell 0 _ rfl
              have a1 := (hq.blk _ (List.Mem.tail _ (List.Mem.tail _ (List.Mem.tail _ (List.Mem.head _))))).1.cell 1 _ rfl
              have a2 := (hq.blk _ (List.Mem.tail _ (List.Mem.tail _ (List.Mem.tail _ (List.Mem.head _))))).1.cell 2 _ rfl
              have a3 := (hq.blk _ (List.Mem.tail _ (List.Mem.tail _ (List.Mem.tail _ (List.Mem.head _))))).1.cell 3 _ rfl
              have a4 := (hq.blk _ (List.Mem.tail _ (List.Mem.tail _ (List.Mem.tail _ (List.Mem.head _))))).1.cell 4 _ rfl
              have a5 := (hq.blk _ (List.Mem.tail _ (List.Mem.tail _ (List.Mem.tail _ (List.Mem.head _))))).1.cell 5 _ rfl
              clear hq HQN
              go_wp2_with fail
              refine HD.out.mono ?_
              rintro e w5 ⟨k4, rfl, hz, hk4⟩
              rw [HFF.out.2.2.2] at hz
              rw [E4.out]
              have hq := hz.push [.int .i64 X.1.e, .bool X.1.g, .int .i64 X.1.l, .int .i64 X.1.wt, .int .i64 X.1.s, .int .i64 X.1.now] 42
              have HQN := Lib.hid hq
              clear HD hz
              clear a0 a1 a2 a3 a4 a5
              have p0 := (hq.blk _ (List.Mem.tail _ (List.Mem.tail _ (List.Mem.tail _ (List.Mem.head _))))).1.cell 0 _ rfl
              have p1 := (hq.blk _ (List.Mem.tail _ (List.Mem.tail _ (List.Mem.tail _ (List.Mem.head _))))).1.cell 1 _ rfl
              have p2 := (hq.blk _ (List.Mem.tail _ (List.Mem.tail _ (List.Mem.tail _ (List.Mem.head _))))).1.cell 2 _ rfl
              have p3 := (hq.blk _ (List.Mem.tail _ (List.Mem.tail _ (List.Mem.tail _ (List.Mem.head _))))).1.cell 3 _ rfl
              have p4 := (hq.blk _ (List.Mem.tail _ (List.Mem.tail _ (List.Mem.tail _ (List.Mem.head _))))).1.cell 4 _ rfl
              have p5 := (hq.blk _ (List.Mem.tail _ (List.Mem.tail _ (List.Mem.tail _ (List.Mem.head _))))).1.cell 5 _ rfl
              have s0 := (hq.blk _ (List.Mem.head _)).1.cell 0 _ rfl
              have s1 := (hq.blk _ (List.Mem.head _)).1.cell 1 _ rfl
              have s2 := (hq.blk _ (List.Mem.head _)).1.cell 2 _ rfl
              have s3 := (hq.blk _ (List.Mem.head _)).1.cell 3 _ rfl
              have s4 := (hq.blk _ (List.Mem.head _)).1.cell 4 _ rfl
              have s5 := (hq.blk _ (List.Mem.head _)).1.cell 5 _ rfl
              have q0 := (hq.blk _ (List.Mem.tail _ (List.Mem.tail _ (List.Mem.head _)))).1.cell 0 _ rfl
              have q1 := (hq.blk _ (List.Mem.tail _ (List.Mem.tail _ (List.Mem.head _)))).1.cell 1 _ rfl
              have q2 := (hq.blk _ (List.Mem.tail _ (List.Mem.tail _ (List.Mem.head _)))).1.cell 2 _ rfl
              have q3 := (hq.blk _ (List.Mem.tail _ (List.Mem.tail _ (List.Mem.head _)))).1.cell 3 _ rfl
              have q4 := (hq.blk _ (List.Mem.tail _ (List.Mem.tail _ (List.Mem.head _)))).1.cell 4 _ rfl
              have q5 := (hq.blk _ (List.Mem.tail _ (List.Mem.tail _ (List.Mem.head _)))).1.cell 5 _ rfl
              have r0 := (hq.blk _ (List.Mem.tail _ (List.Mem.head _))).1.cell 0 _ rfl
              have r1 := (hq.blk _ (List.Mem.tail _ (List.Mem.head _))).1.cell 1 _ rfl
              have r2 := (hq.blk _ (List.Mem.tail _ (List.Mem.head _))).1.cell 2 _ rfl
              have r3 := (hq.blk _ (List.Mem.tail _ (List.Mem.head _))).1.cell 3 _ rfl
              have r4 := (hq.blk _ (List.Mem.tail _ (List.Mem.head _))).1.cell 4 _ rfl
              have r5 := (hq.blk _ (List.Mem.tail _ (List.Mem.head _))).1.cell 5 _ rfl
              have heq := eqRepX
              have HCA := Lib.hid (cells_any _ xa 2 ca 4096 ma k2 A1 tabL _ hq.a (by omega))
              clear hq
              go_wp2_with fail
              refine HCA.out.mono ?_
              rintro e w6 ⟨L1, d1, l1, rfl, hl1, hlo1, hce1, hb6⟩
              have hq6 := HQN.out.below hb6
              have HCB := Lib.hid (cells_any _ xb 2 cb 4096 mb k4 A2 tabL _ hq6.b (by omega))
              have HL1 := Lib.hid (And.intro hlo1 (And.intro hl1 hce1))
              have HB6 := Lib.hid (HQN.out.off.trans (Off.of_below (S := [ma, mb]) hb6))
              clear hq6 hlo1 hl1 hce1 hb6 HCA
              go_wp2_with fail
              refine HCB.out.mono ?_
              rintro e w7 ⟨L2, d2, l2, rfl, hl2, hlo2, hce2, hb7⟩
              have hca1 := (CelsA.of HL1.out.2.1 HL1.out.2.2).below hb7
              have hca2 := CelsA.of hl2 hce2
              have HSM := Lib.hid (celsame_any w7 L1 L2 k2 d1 k4 d2 l1 l2 (hca1.more hb7.size) hca2 (HL1.out.1.uniq hlo2) (by omega))
              have HB7 := Lib.hid (HB6.out.trans (Off.of_below (S := [ma, mb]) hb7))
              clear hca1 hca2 hl2 hlo2 hce2 hb7 HCB
              go_wp2_with fail
              refine HSM.out.mono ?_
              rintro e w8 ⟨rfl, t, rfl⟩
              have HB8 := Lib.hid ((HQ.out.b.trans (HR0.out.low.mono HQ.out.b.size)).trans (below_drewN (HB7.out.below (B := w.heap.size) (Nat.le_trans HQ.out.b.size HR0.out.low.size) (by intro x hx; have g1 := HR0.out.ga; have g2 := HR0.out.gb; have g3 := HQ.out.b.size; simp at hx; omega)) t))
              go_wp2
              go_ret
              exact ⟨rfl, HB8.out⟩
          · obtain rfl : j = n0 := by omega
            have HR0 : Hid (SwR wc wr xa xb ma mb A1 A2 ca cb 100) := Lib.hid ⟨HP.out.low, HP.out.ne, HP.out.ga, HP.out.gb, by obtain ⟨k, M, g1, g2, g3⟩ := HP.out.st; exact ⟨k, M, g1, g2, by omega⟩⟩
            clear HP
            generalize wr = W0 at HR0 ⊢
            obtain ⟨k, M, hA, hB, hk⟩ := HR0.out.st
            have hne := HR0.out.ne
            obtain ⟨n1, n2, n3⟩ := HNE.out
            have hsz := HQ.out.y.lt
            have hga := HR0.out.ga
            have hgb := HR0.out.gb
            have hlow := HQ.out.b.trans (HR0.out.low.mono HQ.out.b.size)
            have q0 : SwQ W0 W0 xa xb ma mb A1 A2 ca cb [(w.heap.size, [.int .u8 (vx.o : Nat), .int .i64 (vx.p : Nat), .slice vx.A vx.m vx.c, .int .i64 vx.N, .int .i64 (vx.nw : Nat), .int .i64 vx.s]), (w.heap.size + 1, [.int .u8 (vy.o : Nat), .int .i64 (vy.p : Nat), .slice vy.A vy.m vy.c, .int .i64 vy.N, .int .i64 (vy.nw : Nat), .int .i64 vy.s])] k k M M :=
              ⟨Off.refl _ _, fun p hp => by
                rcases List.mem_cons.1 hp with rfl | hp
                · exact ⟨HQ.out.x.below HR0.out.low, by simp only; omega, by simp only; omega⟩
                · obtain rfl := List.mem_singleton.1 hp
                  exact ⟨HQ.out.y.below HR0.out.low, by simp only; omega, by simp only; omega⟩, hA, hB⟩
            have HLL := Lib.hid hlow
            have HKX := Lib.hid (fun W (hW : Off [ma, mb] W0 W) => show Arg W W.heap.size vx.A vx.m vx.c vx.zs from ((HVX.out.2.below HLL.out).below (hW.below HLL.out.size (by intro x hx; simp at hx; omega))).more (Nat.le_trans HLL.out.size hW.size))
            have HKY := Lib.hid (fun W (hW : Off [ma, mb] W0 W) => show Arg W W.heap.size vy.A vy.m vy.c vy.zs from ((HVY.out.2.below HLL.out).below (hW.below HLL.out.size (by intro x hx; simp at hx; omega))).more (Nat.le_trans HLL.out.size hW.size))
            obtain ⟨X, hX⟩ : ∃ X, X = cellM (tabL.getD vx.p noPol) (getB M (vx.p :: vx.zs)) vx.o vx.N vx.nw vx.s := ⟨_, rfl⟩
            obtain ⟨Y, hY⟩ : ∃ Y, Y = cellM (tabL.getD vy.p noPol) (getB M (vy.p :: vy.zs)) vy.o vy.N vy.nw vy.s := ⟨_, rfl⟩
            have E1 := Lib.hid (fun k k' => show repF tabL M vx.o vx.p vx.zs vx.N vx.nw vx.s k k' = X.1 from by rw [repF_lt k k' n1, hX])
            have E2 := Lib.hid (fun k k' => show repF tabL M vy.o vy.p vy.zs vy.N vy.nw vy.s k k' = Y.1 from by rw [repF_lt k k' n2, hY])
            have E3 := Lib.hid (fun k k' => show repF tabL (afterB M (vx.p :: vx.zs) X) vy.o vy.p vy.zs vy.N vy.nw vy.s k k' = Y.1 from by rw [repF_lt k k' n2, get_after_ne X (Ne.symm n3), hY])
            have E4 := Lib.hid (fun k k' => show repF tabL (afterB M (vy.p :: vy.zs) Y) vx.o vx.p vx.zs vx.N vx.nw vx.s k k' = X.1 from by rw [repF_lt k k' n1, get_after_ne Y n3, hX])
            have F1 : actM tabL M vx.o vx.p vx.zs vx.N vx.nw vx.s = afterB M (vx.p :: vx.zs) X := by rw [actM_lt _ _ _ _ _ _ _ _ n1, hX]
            have F2 : actM tabL M vy.o vy.p vy.zs vy.N vy.nw vy.s = afterB M (vy.p :: vy.zs) Y := by rw [actM_lt _ _ _ _ _ _ _ _ n2, hY]
            have F3 : actM tabL (afterB M (vx.p :: vx.zs) X) vy.o vy.p vy.zs vy.N vy.nw vy.s = afterB (afterB M (vx.p :: vx.zs) X) (vy.p :: vy.zs) Y := by rw [actM_lt _ _ _ _ _ _ _ _ n2, get_after_ne X (Ne.symm n3), hY]
            have F4 : actM tabL (afterB M (vy.p :: vy.zs) Y) vx.o vx.p vx.zs vx.N vx.nw vx.s = afterB (afterB M (vx.p :: vx.zs) X) (vy.p :: vy.zs) Y := by rw [actM_lt _ _ _ _ _ _ _ _ n1, get_after_ne Y n3, ← hX, after_comm M Y X (Ne.symm n3)]
            have HFF := Lib.hid (And.intro F1 (And.intro F2 (And.intro F3 F4)))
            have HD := Lib.hid (q0.doA hne vx HVX.out.1 vx.nw HVX.out.1.nw (HKX.out W0 q0.off) (by omega))
            have a0 := (q0.blk _ (List.Mem.head _)).1.cell 0 _ rfl
            have a1 := (q0.blk _ (List.Mem.head _)).1.cell 1 _ rfl
            have a2 := (q0.blk _ (List.Mem.head _)).1.cell 2 _ rfl
            have a3 := (q0.blk _ (List.Mem.head _)).1.cell 3 _ rfl
            have a4 := (q0.blk _ (List.Mem.head _)).1.cell 4 _ rfl
            have a5 := (q0.blk _ (List.Mem.head _)).1.cell 5 _ rfl
            clear F1 F2 F3 F4 hX hY hA hB hlow hsz hga hgb n1 n2 n3 q0
            go_wp2_with fail
            refine HD.out.mono ?_
            rintro e w2 ⟨k1, rfl, hz, hk1⟩
            rw [HFF.out.1] at hz
            rw [E1.out]
            have hq := hz.push [.int .i64 X.1.e, .bool X.1.g, .int .i64 X.1.l, .int .i64 X.1.wt, .int .i64 X.1.s, .int .i64 X.1.now] 42
            have HQN := Lib.hid hq
            clear HD hz
            have HD := Lib.hid (hq.doA hne vy HVY.out.1 vy.nw HVY.out.1.nw (HKY.out _ hq.off) (by omega))
            clear a0 a1 a2 a3 a4 a5
            have b0 := (hq.blk _ (List.Mem.tail _ (List.Mem.tail _ (List.Mem.head _)))).1.cell 0 _ rfl
            have b1 := (hq.blk _ (List.Mem.tail _ (List.Mem.tail _ (List.Mem.head _)))).1.cell 1 _ rfl
            have b2 := (hq.blk _ (List.Mem.tail _ (List.Mem.tail _ (List.Mem.head _)))).1.cell 2 _ rfl
            have b3 := (hq.blk _ (List.Mem.tail _ (List.Mem.tail _ (List.Mem.head _)))).1.cell 3 _ rfl
            have b4 := (hq.blk _ (List.Mem.tail _ (List.Mem.tail _ (List.Mem.head _)))).1.cell 4 _ rfl
            have b5 := (hq.blk _ (List.Mem.tail _ (List.Mem.tail _ (List.Mem.head _)))).1.cell 5 _ rfl
            clear hq HQN
            go_wp2_with fail
            refine HD.out.mono ?_
            rintro e w3 ⟨k2, rfl, hz, hk2⟩
            rw [HFF.out.2.2.1] at hz
            rw [E3.out]
            have hq := hz.push [.int .i64 Y.1.e, .bool Y.1.g, .int .i64 Y.1.l, .int .i64 Y.1.wt, .int .i64 Y.1.s, .int .i64 Y.1.now] 42
            have HQN := Lib.hid hq
            clear HD hz
            have HD := Lib.hid (hq.doB hne vy HVY.out.1 vy.nw HVY.out.1.nw (HKY.out _ hq.off) (by omega))
            clear b0 b1 b2 b3 b4 b5
            have b0 := (hq.blk _ (List.Mem.tail _ (List.Mem.tail _ (List.Mem.tail _ (List.Mem.head _))))).1.cell 0 _ rfl
            have b1 := (hq.blk _ (List.Mem.tail _ (List.Mem.tail _ (List.Mem.tail _ (List.Mem.head _))))).1.cell 1 _ rfl
            have b2 := (hq.blk _ (List.Mem.tail _ (List.Mem.tail _ (List.Mem.tail _ (List.Mem.head _))))).1.cell 2 _ rfl
            have b3 := (hq.blk _ (List.Mem.tail _ (List.Mem.tail _ (List.Mem.tail _ (List.Mem.head _))))).1.cell 3 _ rfl
            have b4 := (hq.blk _ (List.Mem.tail _ (List.Mem.tail _ (List.Mem.tail _ (List.Mem.head _))))).1.cell 4 _ rfl
            have b5 := (hq.blk _ (List.Mem.tail _ (List.Mem.tail _ (List.Mem.tail _ (List.Mem.head _))))).1.cell 5 _ rfl
            clear hq HQN
            go_wp2_with fail
            refine HD.out.mono ?_
            rintro e w4 ⟨k3, rfl, hz, hk3⟩
            rw [HFF.out.2.1] at hz
            rw [E2.out]
            have hq := hz.push [.int .i64 Y.1.e, .bool Y.1.g, .int .i64 Y.1.l, .int .i64 Y.1.wt, .int .i64 Y.1.s, .int .i64 Y.1.now] 42
            have HQN := Lib.hid hq
            clear HD hz
            have HD := Lib.hid (hq.doB hne vx HVX.out.1 vx.nw HVX.out.1.nw (HKX.out _ hq.off) (by omega))
            clear b0 b1 b2 b3 b4 b5
            have a0 := (hq.blk _ (List.Mem.tail _ (List.Mem.tail _ (List.Mem.tail _ (List.Mem.head _))))).1.cell 0 _ rfl
            have a1 := (hq.blk _ (List.Mem.tail _ (List.Mem.tail _ (List.Mem.tail _ (List.Mem.head _))))).1.cell 1 _ rfl
            have a2 := (hq.blk _ (List.Mem.tail _ (List.Mem.tail _ (List.Mem.tail _ (List.Mem.head _))))).1.cell 2 _ rfl
            have a3 := (hq.blk _ (List.Mem.tail _ (List.Mem.tail _ (List.Mem.tail _ (List.Mem.head _))))).1.cell 3 _ rfl
            have a4 := (hq.blk _ (List.Mem.tail _ (List.Mem.tail _ (List.Mem.tail _ (List.Mem.head _))))).1.cell 4 _ rfl
            have a5 := (hq.blk _ (List.Mem.tail _ (List.Mem.tail _ (List.Mem.tail _ (List.Mem.head _))))).1.cell 5 _ rfl
            clear hq HQN
            go_wp2_with fail
            refine HD.out.mono ?_
            rintro e w5 ⟨k4, rfl, hz, hk4⟩
            rw [HFF.out.2.2.2] at hz
            rw [E4.out]
            have hq := hz.push [.int .i64 X.1.e, .bool X.1.g, .int .i64 X.1.l, .int .i64 X.1.wt, .int .i64 X.1.s, .int .i64 X.1.now] 42
            have HQN := Lib.hid hq
            clear HD hz
            clear a0 a1 a2 a3 a4 a5
            have p0 := (hq.blk _ (List.Mem.tail _ (List.Mem.tail _ (List.Mem.tail _ (List.Mem.head _))))).1.cell 0 _ rfl
            have p1 := (hq.blk _ (List.Mem.tail _ (List.Mem.tail _ (List.Mem.tail _ (List.Mem.head _))))).1.cell 1 _ rfl
            have p2 := (hq.blk _ (List.Mem.tail _ (List.Mem.tail _ (List.Mem.tail _ (List.Mem.head _))))).1.cell 2 _ rfl
            have p3 := (hq.blk _ (List.Mem.tail _ (List.Mem.tail _ (List.Mem.tail _ (List.Mem.head _))))).1.cell 3 _ rfl
            have p4 := (hq.blk _ (List.Mem.tail _ (List.Mem.tail _ (List.Mem.tail _ (List.Mem.head _))))).1.cell 4 _ rfl
            have p5 := (hq.blk _ (List.Mem.tail _ (List.Mem.tail _ (List.Mem.tail _ (List.Mem.head _))))).1.cell 5 _ rfl
            have s0 := (hq.blk _ (List.Mem.head _)).1.cell 0 _ rfl
            have s1 := (hq.blk _ (List.Mem.head _)).1.cell 1 _ rfl
            have s2 := (hq.blk _ (List.Mem.head _)).1.cell 2 _ rfl
            have s3 := (hq.blk _ (List.Mem.head _)).1.cell 3 _ rfl
            have s4 := (hq.blk _ (List.Mem.head _)).1.cell 4 _ rfl
            have s5 := (hq.blk _ (List.Mem.head _)).1.cell 5 _ rfl
            have q0 := (hq.blk _ (List.Mem.tail _ (List.Mem.tail _ (List.Mem.head _)))).1.cell 0 _ rfl
            have q1 := (hq.blk _ (List.Mem.tail _ (List.Mem.tail _ (List.Mem.head _)))).1.cell 1 _ rfl
            have q2 := (hq.blk _ (List.Mem.tail _ (List.Mem.tail _ (List.Mem.head _)))).1.cell 2 _ rfl
            have q3 := (hq.blk _ (List.Mem.tail _ (List.Mem.tail _ (List.Mem.head _)))).1.cell 3 _ rfl
            have q4 := (hq.blk _ (List.Mem.tail _ (List.Mem.tail _ (List.Mem.head _)))).1.cell 4 _ rfl
            have q5 := (hq.blk _ (List.Mem.tail _ (List.Mem.tail _ (List.Mem.head _)))).1.cell 5 _ rfl
            have r0 := (hq.blk _ (List.Mem.tail _ (List.Mem.head _))).1.cell 0 _ rfl
            have r1 := (hq.blk _ (List.Mem.tail _ (List.Mem.head _))).1.cell 1 _ rfl
            have r2 := (hq.blk _ (List.Mem.tail _ (List.Mem.head _))).1.cell 2 _ rfl
            have r3 := (hq.blk _ (List.Mem.tail _ (List.Mem.head _))).1.cell 3 _ rfl
            have r4 := (hq.blk _ (List.Mem.tail _ (List.Mem.head _))).1.cell 4 _ rfl
            have r5 := (hq.blk _ (List.Mem.tail _ (List.Mem.head _))).1.cell 5 _ rfl
            have heq := eqRepX
            have HCA := Lib.hid (cells_any _ xa 2 ca 4096 ma k2 A1 tabL _ hq.a (by omega))
            clear hq
            go_wp2_with fail
            refine HCA.out.mono ?_
            rintro e w6 ⟨L1, d1, l1, rfl, hl1, hlo1, hce1, hb6⟩
            have hq6 := HQN.out.below hb6
            have HCB := Lib.hid (cells_any _ xb 2 cb 4096 mb k4 A2 tabL _ hq6.b (by omega))
            have HL1 := Lib.hid (And.intro hlo1 (And.intro hl1 hce1))
            have HB6 := Lib.hid (HQN.out.off.trans (Off.of_below (S := [ma, mb]) hb6))
            clear hq6 hlo1 hl1 hce1 hb6 HCA
            go_wp2_with fail
            refine HCB.out.mono ?_
            rintro e w7 ⟨L2, d2, l2, rfl, hl2, hlo2, hce2, hb7⟩
            have hca1 := (CelsA.of HL1.out.2.1 HL1.out.2.2).below hb7
            have hca2 := CelsA.of hl2 hce2
            have HSM := Lib.hid (celsame_any w7 L1 L2 k2 d1 k4 d2 l1 l2 (hca1.more hb7.size) hca2 (HL1.out.1.uniq hlo2) (by omega))
            have HB7 := Lib.hid (HB6.out.trans (Off.of_below (S := [ma, mb]) hb7))
            clear hca1 hca2 hl2 hlo2 hce2 hb7 HCB
            go_wp2_with fail
            refine HSM.out.mono ?_
            rintro e w8 ⟨rfl, t, rfl⟩
            have HB8 := Lib.hid ((HQ.out.b.trans (HR0.out.low.mono HQ.out.b.size)).trans (below_drewN (HB7.out.below (B := w.heap.size) (Nat.le_trans HQ.out.b.size HR0.out.low.size) (by intro x hx; have g1 := HR0.out.ga; have g2 := HR0.out.gb; have g3 := HQ.out.b.size; simp at hx; omega)) t))
            go_wp2
            go_ret
            exact ⟨rfl, HB8.out⟩
      · clear hr
        go_wp2
        go_ret
        exact ⟨rfl, HQ.out.b⟩
end Go.Proofs.Ytnkecjjfbllgdaa
