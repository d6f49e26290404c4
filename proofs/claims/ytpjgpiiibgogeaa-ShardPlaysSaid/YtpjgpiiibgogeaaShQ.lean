/- A shard of a call's own: its contracts together; the first example. -/
import Derived.Test.YtpjgpiiibgogeaaShN
import Derived.Test.YtpjgpiiibgogeaaAwake2
namespace Go.Proofs.Ytpjgpiiibgogeaa
open Go.RowKit
set_option maxRecDepth 100000
set_option linter.unusedVariables false

/-- A shard that a call has made since the world w0. -/
structure ShC (w0 w : World) (s b bw : Nat) (X : List Nat) (k v : Nat) (l : List Ent) (nx : Nat → Nx) : Prop where
  sh : ShS w s b bw X k v l nx
  bs : w0.heap.size ≤ s
  bb : w0.heap.size ≤ b
  bbw : w0.heap.size ≤ bw
  bel : Below w0.heap.size w0 w
section
variable {w0 w w' : World} {s b bw : Nat} {X : List Nat} {k v k' v' : Nat} {l l' : List Ent} {nx nx' : Nat → Nx}
theorem ShC.lts (h : ShC w0 w s b bw X k v l nx) : s < w.heap.size ∧ b < w.heap.size ∧ bw < w.heap.size := by
  obtain ⟨_, _, _, _, _, _, _, hr⟩ := h.sh
  exact hr.lts
theorem ShC.off (h : ShC w0 w s b bw X k v l nx) (hs : ShS w' s b bw X k' v' l' nx') (hf : Off [s, b, bw] w w') : ShC w0 w' s b bw X k' v' l' nx' :=
  ⟨hs, h.bs, h.bb, h.bbw, h.bel.trans (hf.below h.bel.size (by have := h.bs; have := h.bb; have := h.bbw; intro x hx; simp at hx; omega))⟩
theorem ShC.below (h : ShC w0 w s b bw X k v l nx) (hb : Below w.heap.size w w') : ShC w0 w' s b bw X k v l nx :=
  ⟨h.sh.below hb, h.bs, h.bb, h.bbw, h.bel.trans (hb.mono h.bel.size)⟩
theorem ShC.newb (h : ShC w0 w s b bw X k v l nx) : w.heap.size ∉ (s :: b :: bw :: X) := by
  obtain ⟨_, _, _, _, _, _, _, hr⟩ := h.sh
  exact hr.nb
theorem ShC.alloc (h : ShC w0 w s b bw X k v l nx) (o : Obj) : ShC w0 (w.alloc o) s b bw X k v l nx := h.below ((Below.refl _ _).alloc (Nat.le_refl _) _)
theorem ShC.drew (h : ShC w0 w s b bw X k v l nx) : ShC w0 w.drew s b bw X k v l nx := h.below (Below.refl _ _).drew
theorem ShC.drewN (h : ShC w0 w s b bw X k v l nx) (n : Nat) : ShC w0 (w.drewN n) s b bw X k v l nx := h.below (below_drews (Below.refl _ _) n)
theorem NxV.newr {w : World} {s i r : Nat} {S : List Nat} {x : Nx} {f : Value} (h : NxV w s i S x f) (hr : w.heap.size ≤ r) : NxV w s i (r :: S) x f := by
  have nb : ∀ {p : Nat} {xs : List Value}, BlkL w p xs → p ∉ S → p ∉ r :: S := fun hp hs hm => by
    rcases List.mem_cons.1 hm with e | e
    · have := hp.lt; omega
    · exact hs e
  cases h with
  | none => exact .none
  | read op ks v p0 p1 p2 kA kn kc ok h0 h1 h2 a0 a1 a2 hk ak ck =>
    exact .read op ks v p0 p1 p2 kA kn kc ok h0 h1 h2 (nb h0 a0) (nb h1 a1) (nb h2 a2) hk (ak.new hk hr) ck
  | write op ks v num made q p0 p1 p2 p3 p4 p5 kA kn kc A n c es ok h0 h1 h2 h3 h4 h5 a0 a1 a2 a3 a4 a5 hk ak ck hv hm hw hnum =>
    exact .write op ks v num made q p0 p1 p2 p3 p4 p5 kA kn kc A n c es ok h0 h1 h2 h3 h4 h5 (nb h0 a0) (nb h1 a1) (nb h2 a2) (nb h3 a3) (nb h4 a4) (nb h5 a5) hk (ak.new hk hr) ck (hv.new hr) hm hw hnum
theorem memX {s b bw r : Nat} {X : List Nat} : ∀ x ∈ s :: b :: bw :: r :: X, x ∈ r :: s :: b :: bw :: X := by
  intro x hx
  simp only [List.mem_cons] at hx ⊢
  rcases hx with h | h | h | h | h <;> simp [h]
/-- A block more that the shard leaves alone. -/
theorem ShC.newX (h : ShC w0 w s b bw X k v l nx) (o : Obj) : ShC w0 (w.alloc o) s b bw (w.heap.size :: X) k v l nx := by
  obtain ⟨A, n, c, es, fv, ring, he, hr⟩ := h.sh
  have hb : Below w.heap.size w (w.alloc o) := (Below.refl _ _).alloc (Nat.le_refl _) _
  have hr2 := hr.below hb
  refine ⟨⟨A, n, c, es, fv, ring, he, ⟨hr2.blk, hr2.m, ?_, hr2.wf, fun i hi => ?_, hr2.vk, hr2.v1, hr2.ne, hr2.ne', fun x hx => ?_⟩⟩, h.bs, h.bb, h.bbw, h.bel.trans (hb.mono h.bel.size)⟩
  · exact (((hr.ver.new (Nat.le_refl _)).below hb).more hb.size).weak memX
  · exact (((hr.nxv i hi).newr (Nat.le_refl _)).off ((Off.of_below hb))).weak memX
  · rcases List.mem_cons.1 hx with e | e
    · rw [e]; simp
    · exact hr2.hX x e
/-- Stores into such a block. -/
theorem ShC.putX (h : ShC w0 w s b bw X k v l nx) {O : Nat} (hO : O ∈ X) (hs : O ∉ [s, b, bw]) (hge : w0.heap.size ≤ O) (hf : Off [O] w w') : ShC w0 w' s b bw X k v l nx := by
  obtain ⟨A, n, c, es, fv, ring, he, hr⟩ := h.sh
  simp only [List.mem_cons, List.not_mem_nil, or_false, not_or] at hs
  have hfX : Off (s :: b :: bw :: X) w w' := hf.mono (by intro x hx; simp only [List.mem_cons, List.not_mem_nil, or_false] at hx ⊢; subst hx; exact .inr (.inr (.inr hO)))
  exact ⟨⟨A, n, c, es, fv, ring, he, hr.off hf (by simpa using Ne.symm hs.1) (by simpa using Ne.symm hs.2.1) (by simpa using Ne.symm hs.2.2) hfX⟩, h.bs, h.bb, h.bbw, h.bel.trans (hf.below h.bel.size (by simpa using hge))⟩
theorem ShC.wfv (h : ShC w0 w s b bw X k v l nx) : WfL l ∧ v ≤ k ∧ 1 ≤ v := by
  obtain ⟨_, _, _, _, _, _, he, hr⟩ := h.sh
  exact ⟨he ▸ hr.wf, hr.vk, hr.v1⟩
theorem ShC.ok (h : ShC w0 w s b bw X k v l nx) (i : Nat) (hi : i < 64) {op : Nat} {ks : List Nat} {x : Int} (hx : nx i = .read op ks x) : OkC op ks x := by
  obtain ⟨_, _, _, _, fv, _, he, hr⟩ := h.sh
  have := hr.nxv i hi
  rw [hx] at this
  generalize fv i = f at this
  cases this with
  | read _ _ _ _ _ _ _ _ _ ok => exact ok
end
theorem stepC (w0 w : World) (s b bw : Nat) (X : List Nat) (k v : Nat) (l : List Ent) (nx : Nat → Nx) (h : ShC w0 w s b bw X k v l nx) (hk : k < 9223372036854775807) (i : Nat) (hi : i < 64) (x : Nx) (hx : nx i = x) (hp : isNx x = true) (t : StX) (ht : stepX v l x = t) :
    Calls Try.prog 39 #[.pointer (some ⟨s, 0, none⟩), .int .i64 (i : Int)] w fun e w' => e = .returned (.tuple #[.agg #[.bool t.q.d, .int .i64 t.q.E, .int .i64 t.q.N], .int .i64 0]) ∧ ShC w0 w' s b bw X (k + 1) t.v t.l (updF nx i t.y) ∧ Off [s, b, bw] w w' := by
  subst ht
  exact (step_any w s b bw X k v l nx h.sh hk i hi x hx hp).mono fun e w' ⟨h1, h2, h3⟩ => ⟨h1, h.off h2 h3, h3⟩
theorem startC (w0 w : World) (s b bw : Nat) (X : List Nat) (k v : Nat) (l : List Ent) (nx : Nat → Nx) (h : ShC w0 w s b bw X k v l nx) (i : Nat) (hi : i < 64) (hx : nx i = .none) (op : Nat) (h1 : 1 ≤ op) (h4 : op ≤ 4) (A : Option Addr) (n c : Nat) (ks : List Nat) (ha : Arg w w.heap.size A n c ks) (hn : n ≤ 256) (x : Int) (hv : op = 2 ∨ op = 3 → 0 ≤ x ∧ x ≤ 4611686018427387903) :
    Calls Try.prog 36 #[.pointer (some ⟨s, 0, none⟩), .int .i64 (i : Int), .int .u8 (op : Int), .slice A n c, .int .i64 x] w fun e w' => e = .returned (.int .i64 0) ∧ ShC w0 w' s b bw X k v l (updF nx i (.read op ks x)) ∧ Off [s, b, bw] w w' := by
  have key : Calls Try.prog 36 #[.pointer (some ⟨s, 0, none⟩), .int .i64 (i : Int), .int .u8 (op : Int), .slice A n c, .int .i64 x] w (StartEnd w s b bw X k v l (updF nx i (.read op ks x))) := by
    rcases (by omega : op = 2 ∨ op = 3 ∨ (op = 1 ∨ op = 4)) with e | e | e
    · exact start_ok_a w s i op A n c x b bw X k v l nx i hi rfl ks h.sh hx ha e (isTick_iff.mpr (hv (.inl e))) hn
    · exact start_ok_b w s i op A n c x b bw X k v l nx i hi rfl ks h.sh hx ha e (isTick_iff.mpr (hv (.inr e))) hn
    · exact start_ok_c w s i op A n c x b bw X k v l nx i hi rfl ks h.sh hx ha e hn
  exact key.mono fun e w' ⟨h1, h2, h3⟩ => ⟨h1, h.off h2 h3, h3⟩
theorem versionC (w0 w : World) (s b bw : Nat) (X : List Nat) (k v : Nat) (l : List Ent) (nx : Nat → Nx) (h : ShC w0 w s b bw X k v l nx) (hk : v ≤ 9223372036854775807) : Calls Try.prog 45 #[.pointer (some ⟨s, 0, none⟩)] w fun e w' => e = .returned (.int .i64 (v : Int)) ∧ w = w' := by
  obtain ⟨A, n, c, es, fv, ring, _, hr⟩ := h.sh
  exact sVersion_any w s b bw X k v n c A es fv nx ring hr hk
theorem pendC (w0 w : World) (s b bw : Nat) (X : List Nat) (k v : Nat) (l : List Ent) (nx : Nat → Nx) (h : ShC w0 w s b bw X k v l nx) (i : Nat) (hi : i < 64) (x : Nx) (hx : nx i = x) : Calls Try.prog 43 #[.pointer (some ⟨s, 0, none⟩), .int .i64 (i : Int)] w fun e w' => e = .returned (.bool (isNx x)) ∧ w = w' := by
  obtain ⟨A, n, c, es, fv, ring, _, hr⟩ := h.sh
  have := hr.nxv i hi
  rw [hx] at this
  exact sPend_at w s i hi _ x _ this (hr.cn hi)
theorem newC (w : World) : Calls Try.prog 33 #[] w fun e w' => ∃ s b bw, e = .returned (.pointer (some ⟨s, 0, none⟩)) ∧ ShC w w' s b bw [] 1 1 [] (fun _ => .none) :=
  (snew_any w).mono fun e w' ⟨s, b, bw, h1, h2, h3, h4, h5, h6⟩ => ⟨s, b, bw, h1, ⟨h5, h2, h3, h4, h6⟩⟩
theorem eqR (d d' : Bool) (E N E' N' : Int) (w : World) : (binOp .eql 79 (.agg #[.bool d, .int .i64 E, .int .i64 N]) (.agg #[.bool d', .int .i64 E', .int .i64 N'])).run Try.prog w = .ok (.bool (decide (d = d' ∧ E = E' ∧ N = N'))) w := by
  by_cases h1 : d = d'
  · subst h1
    by_cases h2 : E = E'
    · subst h2
      by_cases h3 : N = N'
      · subst h3; simp [go_sem, Result.andThen]
      · simp [go_sem, Result.andThen, h3]
    · simp [go_sem, Result.andThen, h2]
  · simp [go_sem, Result.andThen, h1]

abbrev blkK : Obj := .cells #[.int .u8 97] 5 (1, 2)
theorem lit97 (w : World) : Arg (w.alloc blkK) (w.alloc blkK).heap.size (some ⟨w.heap.size, 0, none⟩) 1 1 [97] := by
  have h := lit1 w 97 (1, 2) (by omega)
  rw [World.size_alloc]
  exact h
theorem aw14_1 : stepX 1 [] (.read 2 [97] 5) = ⟨⟨false, 0, 0⟩, 1, [], .write 2 [97] 5 1 [([97], 5)] ⟨0, 5⟩⟩ := by rfl
theorem aw14_2 : stepX 1 [] (.read 3 [97] 2) = ⟨⟨false, 0, 0⟩, 1, [], .write 3 [97] 2 1 [([97], 2)] ⟨0, 2⟩⟩ := by rfl
theorem aw14_3 : stepX 1 [] (.write 2 [97] 5 1 [([97], 5)] ⟨0, 5⟩) = ⟨⟨true, 0, 5⟩, 2, [([97], 5)], .none⟩ := by rfl
theorem aw14_4 : stepX 2 [([97], 5)] (.write 3 [97] 2 1 [([97], 2)] ⟨0, 2⟩) = ⟨⟨false, 0, 0⟩, 2, [([97], 5)], .read 3 [97] 2⟩ := by rfl
theorem aw14_5 : stepX 2 [([97], 5)] (.read 3 [97] 2) = ⟨⟨false, 0, 0⟩, 2, [([97], 5)], .write 3 [97] 2 2 [([97], 7)] ⟨0, 7⟩⟩ := by rfl
theorem aw14_6 : stepX 2 [([97], 5)] (.write 3 [97] 2 2 [([97], 7)] ⟨0, 7⟩) = ⟨⟨true, 0, 7⟩, 3, [([97], 7)], .none⟩ := by rfl

set_option maxHeartbeats 6400000 in
theorem awake14_any (w : World) : Calls Try.prog 32 #[] w (ValEnd w (.bool true)) := by
  have HN := Lib.hid (newC w)
  have kcv := fun (w : World) (C : Array Value) (n c : Nat) => Lib.run_convert_bytes_const (P := Try.prog) w 70 5 C n c Try.underlying70 Try.underlying5
  have heq := eqR
  go_enter Try.func32, Try.ntmps32
  go_wp2_with fail
  with_reducible refine HN.out.mono ?_
  rintro e w1 ⟨s, b, bw, rfl, c1⟩
  have c1' := c1.alloc blkK
  have hs := startC w _ s b bw [] _ _ _ _ c1' 0 (by omega) rfl 2 (by omega) (by omega) _ 1 1 [97] (lit97 w1) (by omega) 5 (by omega)
  rw [show ((0 : Nat) : Int) = 0 from rfl, show ((2 : Nat) : Int) = 2 from rfl] at hs
  have HS := Lib.hid hs
  clear c1 c1' hs HN
  go_wp2_with fail
  with_reducible refine HS.out.mono ?_
  rintro e w2 ⟨rfl, c2, _⟩
  have c2' := c2.alloc blkK
  have hs := startC w _ s b bw [] _ _ _ _ c2' 1 (by omega) rfl 3 (by omega) (by omega) _ 1 1 [97] (lit97 w2) (by omega) 2 (by omega)
  rw [show ((1 : Nat) : Int) = 1 from rfl, show ((3 : Nat) : Int) = 3 from rfl] at hs
  clear HS
  have HS := Lib.hid hs
  clear c2 c2' hs
  go_wp2_with fail
  with_reducible refine HS.out.mono ?_
  rintro e w3 ⟨rfl, c3, _⟩
  have hs := stepC w _ s b bw [] _ _ _ _ c3 (by omega) 0 (by omega) _ rfl rfl _ aw14_1
  rw [show ((0 : Nat) : Int) = 0 from rfl] at hs
  clear HS
  have HS := Lib.hid hs
  clear c3 hs
  go_wp2_with fail
  with_reducible refine HS.out.mono ?_
  rintro e w4 ⟨rfl, c4, hf4⟩
  clear hf4
  have hs := stepC w _ s b bw [] _ _ _ _ c4 (by omega) 1 (by omega) _ rfl rfl _ aw14_2
  rw [show ((1 : Nat) : Int) = 1 from rfl] at hs
  clear HS
  have HS := Lib.hid hs
  clear c4 hs
  go_wp2_with fail
  with_reducible refine HS.out.mono ?_
  rintro e w5 ⟨rfl, c5, hf5⟩
  clear hf5
  have hs := stepC w _ s b bw [] _ _ _ _ c5 (by omega) 0 (by omega) _ rfl rfl _ aw14_3
  rw [show ((0 : Nat) : Int) = 0 from rfl] at hs
  clear HS
  have HS := Lib.hid hs
  clear c5 hs
  go_wp2_with fail
  with_reducible refine HS.out.mono ?_
  rintro e w6 ⟨rfl, c6, hf6⟩
  clear hf6
  have NKA := Lib.hid c6.newb
  have KA := Lib.hid (BlkL.new w6 [.bool true, .int .i64 0, .int .i64 5] 79)
  have c6 := c6.alloc (.cells #[.bool true, .int .i64 0, .int .i64 5] 79)
  have hs := stepC w _ s b bw [] _ _ _ _ c6 (by omega) 1 (by omega) _ rfl rfl _ aw14_4
  rw [show ((1 : Nat) : Int) = 1 from rfl] at hs
  clear HS
  have HS := Lib.hid hs
  clear c6 hs
  go_wp2_with fail
  with_reducible refine HS.out.mono ?_
  rintro e w7 ⟨rfl, c7, hf7⟩
  have KA := Lib.hid (KA.out.off hf7 NKA.out)
  clear hf7
  have NKB := Lib.hid c7.newb
  have KB := Lib.hid (BlkL.new w7 [.bool false, .int .i64 0, .int .i64 0] 79)
  have c7 := c7.alloc (.cells #[.bool false, .int .i64 0, .int .i64 0] 79)
  have KA := Lib.hid (KA.out.alloc (.cells #[.bool false, .int .i64 0, .int .i64 0] 79))
  have hs := stepC w _ s b bw [] _ _ _ _ c7 (by omega) 1 (by omega) _ rfl rfl _ aw14_5
  rw [show ((1 : Nat) : Int) = 1 from rfl] at hs
  clear HS
  have HS := Lib.hid hs
  clear c7 hs
  go_wp2_with fail
  with_reducible refine HS.out.mono ?_
  rintro e w8 ⟨rfl, c8, hf8⟩
  have KA := Lib.hid (KA.out.off hf8 NKA.out)
  have KB := Lib.hid (KB.out.off hf8 NKB.out)
  clear hf8
  have hs := stepC w _ s b bw [] _ _ _ _ c8 (by omega) 1 (by omega) _ rfl rfl _ aw14_6
  rw [show ((1 : Nat) : Int) = 1 from rfl] at hs
  clear HS
  have HS := Lib.hid hs
  clear c8 hs
  go_wp2_with fail
  with_reducible refine HS.out.mono ?_
  rintro e w9 ⟨rfl, c9, hf9⟩
  have KA := Lib.hid (KA.out.off hf9 NKA.out)
  have KB := Lib.hid (KB.out.off hf9 NKB.out)
  clear hf9
  have NKC := Lib.hid c9.newb
  have KC := Lib.hid (BlkL.new w9 [.bool true, .int .i64 0, .int .i64 7] 79)
  have c9 := c9.alloc (.cells #[.bool true, .int .i64 0, .int .i64 7] 79)
  have KA := Lib.hid (KA.out.alloc (.cells #[.bool true, .int .i64 0, .int .i64 7] 79))
  have KB := Lib.hid (KB.out.alloc (.cells #[.bool true, .int .i64 0, .int .i64 7] 79))
  have kA0 := KA.out.cell 0 _ rfl
  have kA1 := KA.out.cell 1 _ rfl
  have kA2 := KA.out.cell 2 _ rfl
  have kAl := KA.out.lt
  have kB0 := KB.out.cell 0 _ rfl
  have kB1 := KB.out.cell 1 _ rfl
  have kB2 := KB.out.cell 2 _ rfl
  have kBl := KB.out.lt
  have kC0 := KC.out.cell 0 _ rfl
  have kC1 := KC.out.cell 1 _ rfl
  have kC2 := KC.out.cell 2 _ rfl
  have kCl := KC.out.lt
  have HV := Lib.hid (versionC w _ s b bw [] _ _ _ _ c9 (by omega))
  rw [show ((3 : Nat) : Int) = 3 from rfl] at HV
  have HB := Lib.hid c9.bel
  clear c9 HS
  go_wp2_with fail
  with_reducible refine HV.out.mono ?_
  rintro e w10 ⟨rfl, hw⟩
  subst hw
  go_wp2
  go_ret
  exact ⟨by rfl, HB.out⟩
end Go.Proofs.Ytpjgpiiibgogeaa
