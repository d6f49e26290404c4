/- An Epochs: isWorker, load, swap, Epoch; the makers of steps. -/
import Derived.Test.YtpjgpiiibgogeaaEpA
import Derived.Test.YtpjgpiiibgogeaaShU
namespace Go.Proofs.Ytpjgpiiibgogeaa
open Go.RowKit
set_option maxRecDepth 100000
set_option linter.unusedVariables false

section
variable {w : World} {B x b bw wb W : Nat} {X : List Nat} {k : Nat} {s : EpV} {fv : Nat → Value} {rA : Nat → Option Addr} {rc : Nat → Nat} {ring : List Value}
theorem isW_any (h : EpR w B x b bw wb W X k s fv rA rc ring) (who : Int) : Calls Try.prog 53 #[PV x, .int .i64 who] w fun e w' => e = .returned (.bool (inB who W)) ∧ w = w' := by
  have c1 := h.c1
  clear h
  rcases h0 : decide (0 ≤ who) with _ | _
  · have e : inB who W = false := by unfold inB; rw [h0]; rfl
    go_enter Try.func53, Try.ntmps53
    go_wp2
    go_ret
    exact ⟨by rw [e]; rfl, rfl⟩
  · have e : inB who W = decide (who < W) := by unfold inB; rw [h0]; rfl
    go_enter Try.func53, Try.ntmps53
    go_wp2
    go_ret
    exact ⟨by rw [e]; rfl, rfl⟩
theorem isW_nil (w : World) (who : Int) : Calls Try.prog 53 #[.pointer none, .int .i64 who] w fun e w' => e = .returned (.bool false) ∧ w = w' := by
  go_enter Try.func53, Try.ntmps53
  go_wp2
  go_ret
  exact ⟨rfl, rfl⟩
theorem load_any (h : EpR w B x b bw wb W X k s fv rA rc ring) (hk : k < 9223372036854775807) (i j : Nat) (hi : i < W) (hj : j < W + 1) : Calls Try.prog 99 #[PV x, IV i, IV j] w fun e w' => e = .returned (UV (s.ws.getD j 0)) ∧ (∃ ring', EpR w' B x b bw wb W X (k + 1) s fv rA rc ring') ∧ Off [b] w w' := by
  have hw := h.w64
  have HL := Lib.hid (load_ok w b bw (W + 1) s.ws 0 k ring h.m hk (i : Int) j (inB_iff.mpr (by omega)) hj)
  have c0 := h.c0
  have H := Lib.hid h
  clear h
  go_enter Try.func99, Try.ntmps99
  go_wp2_with fail
  with_reducible refine HL.out.mono ?_
  rintro e w1 ⟨rfl, hm, hf⟩
  have hz := H.out.mach hm (hf.mono (by intro y hy; simp at hy; simp [hy]))
  clear hm
  go_wp2
  go_ret
  exact ⟨rfl, ⟨_, hz⟩, hf⟩
theorem swap_any (h : EpR w B x b bw wb W X k s fv rA rc ring) (hk : k < 9223372036854775807) (i j old new : Nat) (hi : i < W) (hj : j < W + 1) (r : Bool) (hr : decide (s.ws.getD j 0 = old) = r) (s' : EpV) (hs : (if s.ws.getD j 0 = old then s.setW j new else s) = s') : Calls Try.prog 101 #[PV x, IV i, IV j, UV old, UV new] w fun e w' => e = .returned (.bool r) ∧ (∃ ring', EpR w' B x b bw wb W X (k + 1) s' fv rA rc ring') ∧ Off [b, bw] w w' := by
  have hw := h.w64
  have hl := swap_ok w b bw (W + 1) s.ws 0 k ring h.m hk (i : Int) j old new (inB_iff.mpr (by omega)) hj
  rw [hr] at hl
  have HL := Lib.hid hl
  have c0 := h.c0
  have H := Lib.hid h
  have HS := Lib.hid hs
  clear h hr hl hs
  go_enter Try.func101, Try.ntmps101
  go_wp2_with fail
  with_reducible refine HL.out.mono ?_
  rintro e w1 ⟨rfl, hm, hf⟩
  have hz := H.out.mach hm hf
  have e2 : ({ s with ws := if s.ws.getD j 0 = old then s.ws.set j new else s.ws } : EpV) = s' := by rw [← HS.out]; split <;> rfl
  rw [e2] at hz
  have HZ := Lib.hid hz
  clear hm e2 hz HL H HS
  go_wp2
  go_ret
  exact ⟨rfl, ⟨_, HZ.out⟩, hf⟩
theorem epoch_any (h : EpR w B x b bw wb W X k s fv rA rc ring) (hE : s.E ≤ 9223372036854775807) : Calls Try.prog 26 #[PV x] w fun e w' => e = .returned (.int .i64 (s.E : Int)) ∧ w = w' := by
  have hw := word_at w b bw (W + 1) s.ws 0 k ring h.m 0 (by omega)
  rw [show ((0 : Nat) : Int) = 0 from rfl] at hw
  have HW := Lib.hid hw
  clear hw
  have c0 := h.c0
  have hE' : (s.ws.getD 0 0 : Int) ≤ 9223372036854775807 := by have : s.ws.getD 0 0 ≤ 9223372036854775807 := hE; omega
  clear h
  unfold EpV.E at *
  generalize s.ws.getD 0 0 = v at *
  go_enter Try.func26, Try.ntmps26
  go_wp2_with fail
  with_reducible refine HW.out.mono ?_
  rintro e w1 ⟨rfl, hw⟩
  subst hw
  go_wp2
  go_ret
  exact ⟨rfl, rfl⟩
end
theorem epoch_nil (w : World) : Calls Try.prog 26 #[.pointer none] w fun e w' => e = .returned (.int .i64 0) ∧ w = w' := by
  go_enter Try.func26, Try.ntmps26
  go_wp2
  go_ret
  exact ⟨rfl, rfl⟩
theorem wordOf_any (w : World) (i : Nat) (hi : i < 9223372036854775807) : Calls Try.prog 52 #[IV i] w fun e w' => e = .returned (IV (i + 1)) ∧ w = w' := by
  have e1 : IntKind.i64.wrap (1 + (i : Int)) = ((i + 1 : Nat) : Int) := by rw [IntWalk.i64_in _ (by omega)]; omega
  go_enter Try.func52, Try.ntmps52
  go_wp2
  go_ret
  exact ⟨by first | rfl | (rw [show ((i + 1 : Nat) : Int) = 1 + (i : Int) by omega]; rfl), rfl⟩
set_option maxHeartbeats 800000 in
theorem goOn_any (w : World) (K : Nat) (c1 c2 : Array Value) : Calls Try.prog 97 #[.func (.func K) c1 c2] w fun e w' => e = .returned (.tuple #[.agg #[.bool false, .int .i64 0, .int .i64 0, .slice none 0 0], .func (.func K) c1 c2]) ∧ Below w.heap.size w w' := by
  have k0 := BlkL.new w [.bool false, .int .i64 0, .int .i64 0, .slice none 0 0] 37
  have hb := (Below.refl w.heap.size w).alloc (Nat.le_refl _) (.cells #[.bool false, .int .i64 0, .int .i64 0, .slice none 0 0] 37)
  have BZ := Lib.hid (And.intro k0 hb)
  clear k0 hb
  go_enter Try.func97, Try.ntmps97
  go_wp2
  have z0 := BZ.out.1.cell 0 _ rfl
  have z1 := BZ.out.1.cell 1 _ rfl
  have z2 := BZ.out.1.cell 2 _ rfl
  have z3 := BZ.out.1.cell 3 _ rfl
  exact bodyPost_ret (v := .tuple #[.agg #[.bool false, .int .i64 0, .int .i64 0, .slice none 0 0], .func (.func K) c1 c2]) (by simp [results, Try.results97, go_sem, z0, z1, z2, z3]) rfl ⟨rfl, BZ.out.2⟩
set_option maxHeartbeats 800000 in
theorem done13_any (w : World) (n : Int) : Calls Try.prog 102 #[.int .i64 n] w fun e w' => e = .returned (.tuple #[.agg #[.bool true, .int .i64 0, .int .i64 n, .slice none 0 0], .nilFunc]) ∧ Below w.heap.size w w' := by
  have k0 := BlkL.new w [.bool true, .int .i64 0, .int .i64 n, .slice none 0 0] 37
  have hb := (Below.refl w.heap.size w).alloc (Nat.le_refl _) (.cells #[.bool true, .int .i64 0, .int .i64 n, .slice none 0 0] 37)
  have BZ := Lib.hid (And.intro k0 hb)
  clear k0 hb
  go_enter Try.func102, Try.ntmps102
  go_wp2
  have z0 := BZ.out.1.cell 0 _ rfl
  have z1 := BZ.out.1.cell 1 _ rfl
  have z2 := BZ.out.1.cell 2 _ rfl
  have z3 := BZ.out.1.cell 3 _ rfl
  exact bodyPost_ret (v := .tuple #[.agg #[.bool true, .int .i64 0, .int .i64 n, .slice none 0 0], .nilFunc]) (by simp [results, Try.results102, go_sem, z0, z1, z2, z3]) rfl ⟨rfl, BZ.out.2⟩

theorem mk_pin (w : World) (x i : Nat) (Q : Nat → Prop) (hQ : ∀ p, Q p → p < w.heap.size) : Calls Try.prog 78 #[PV x, IV i] w fun e' w' => ∃ f, e' = .returned f ∧ (ClV w' Q (capsE x i (.pin)) f ∧ ∃ (K : Nat) (cs : Array Value), f = .func (.func K) #[] cs) ∧ Below w.heap.size w w' := by
  have hmf : ∀ (fn : Fn) (first cap : Array Value) (w : World), (Instr.makeFunc fn first cap).run Try.prog w = .ok (.func fn first cap) w := fun _ _ _ _ => rfl
  have k0 := (BlkL.new w [PV x] 24).alloc (.cells #[IV i] 3)
  have k1 := BlkL.new (w.alloc (.cells #[PV x] 24)) [IV i] 3
  simp only [World.size_alloc] at k1
  have hb : Below w.heap.size w ((w.alloc (.cells #[PV x] 24)).alloc (.cells #[IV i] 3)) := ((Below.refl w.heap.size w).alloc (by simp <;> omega) _).alloc (by simp <;> omega) _
  have hn : ∀ m, ¬ Q (w.heap.size + m) := fun m hm => by have := hQ _ hm; omega
  have HC := Lib.hid (ClV.mk2 (K := 96) k0 k1 (hn 0) (hn 1))
  have HB := Lib.hid hb
  clear hb hn k0 k1
  go_enter Try.func78, Try.ntmps78
  go_wp2
  go_ret
  exact ⟨_, rfl, ⟨HC.out, _, _, rfl⟩, HB.out⟩

theorem mk_unpin (w : World) (x i : Nat) (Q : Nat → Prop) (hQ : ∀ p, Q p → p < w.heap.size) : Calls Try.prog 79 #[PV x, IV i] w fun e' w' => ∃ f, e' = .returned f ∧ (ClV w' Q (capsE x i (.unpin)) f ∧ ∃ (K : Nat) (cs : Array Value), f = .func (.func K) #[] cs) ∧ Below w.heap.size w w' := by
  have hmf : ∀ (fn : Fn) (first cap : Array Value) (w : World), (Instr.makeFunc fn first cap).run Try.prog w = .ok (.func fn first cap) w := fun _ _ _ _ => rfl
  have k0 := (BlkL.new w [PV x] 24).alloc (.cells #[IV i] 3)
  have k1 := BlkL.new (w.alloc (.cells #[PV x] 24)) [IV i] 3
  simp only [World.size_alloc] at k1
  have hb : Below w.heap.size w ((w.alloc (.cells #[PV x] 24)).alloc (.cells #[IV i] 3)) := ((Below.refl w.heap.size w).alloc (by simp <;> omega) _).alloc (by simp <;> omega) _
  have hn : ∀ m, ¬ Q (w.heap.size + m) := fun m hm => by have := hQ _ hm; omega
  have HC := Lib.hid (ClV.mk2 (K := 100) k0 k1 (hn 0) (hn 1))
  have HB := Lib.hid hb
  clear hb hn k0 k1
  go_enter Try.func79, Try.ntmps79
  go_wp2
  go_ret
  exact ⟨_, rfl, ⟨HC.out, _, _, rfl⟩, HB.out⟩

theorem mk_advance (w : World) (x i : Nat) (Q : Nat → Prop) (hQ : ∀ p, Q p → p < w.heap.size) : Calls Try.prog 81 #[PV x, IV i] w fun e' w' => ∃ f, e' = .returned f ∧ (ClV w' Q (capsE x i (.advance)) f ∧ ∃ (K : Nat) (cs : Array Value), f = .func (.func K) #[] cs) ∧ Below w.heap.size w w' := by
  have hmf : ∀ (fn : Fn) (first cap : Array Value) (w : World), (Instr.makeFunc fn first cap).run Try.prog w = .ok (.func fn first cap) w := fun _ _ _ _ => rfl
  have k0 := (BlkL.new w [PV x] 24).alloc (.cells #[IV i] 3)
  have k1 := BlkL.new (w.alloc (.cells #[PV x] 24)) [IV i] 3
  simp only [World.size_alloc] at k1
  have hb : Below w.heap.size w ((w.alloc (.cells #[PV x] 24)).alloc (.cells #[IV i] 3)) := ((Below.refl w.heap.size w).alloc (by simp <;> omega) _).alloc (by simp <;> omega) _
  have hn : ∀ m, ¬ Q (w.heap.size + m) := fun m hm => by have := hQ _ hm; omega
  have HC := Lib.hid (ClV.mk2 (K := 104) k0 k1 (hn 0) (hn 1))
  have HB := Lib.hid hb
  clear hb hn k0 k1
  go_enter Try.func81, Try.ntmps81
  go_wp2
  go_ret
  exact ⟨_, rfl, ⟨HC.out, _, _, rfl⟩, HB.out⟩

theorem mk_collect (w : World) (x i : Nat) (Q : Nat → Prop) (hQ : ∀ p, Q p → p < w.heap.size) : Calls Try.prog 82 #[PV x, IV i] w fun e' w' => ∃ f, e' = .returned f ∧ (ClV w' Q (capsE x i (.collect)) f ∧ ∃ (K : Nat) (cs : Array Value), f = .func (.func K) #[] cs) ∧ Below w.heap.size w w' := by
  have hmf : ∀ (fn : Fn) (first cap : Array Value) (w : World), (Instr.makeFunc fn first cap).run Try.prog w = .ok (.func fn first cap) w := fun _ _ _ _ => rfl
  have k0 := (BlkL.new w [PV x] 24).alloc (.cells #[IV i] 3)
  have k1 := BlkL.new (w.alloc (.cells #[PV x] 24)) [IV i] 3
  simp only [World.size_alloc] at k1
  have hb : Below w.heap.size w ((w.alloc (.cells #[PV x] 24)).alloc (.cells #[IV i] 3)) := ((Below.refl w.heap.size w).alloc (by simp <;> omega) _).alloc (by simp <;> omega) _
  have hn : ∀ m, ¬ Q (w.heap.size + m) := fun m hm => by have := hQ _ hm; omega
  have HC := Lib.hid (ClV.mk2 (K := 106) k0 k1 (hn 0) (hn 1))
  have HB := Lib.hid hb
  clear hb hn k0 k1
  go_enter Try.func82, Try.ntmps82
  go_wp2
  go_ret
  exact ⟨_, rfl, ⟨HC.out, _, _, rfl⟩, HB.out⟩

theorem mk_retire (w : World) (x i : Nat) (t : Int) (Q : Nat → Prop) (hQ : ∀ p, Q p → p < w.heap.size) : Calls Try.prog 80 #[PV x, IV i, .int .i64 t] w fun e' w' => ∃ f, e' = .returned f ∧ (ClV w' Q (capsE x i (.retire t)) f ∧ ∃ (K : Nat) (cs : Array Value), f = .func (.func K) #[] cs) ∧ Below w.heap.size w w' := by
  have hmf : ∀ (fn : Fn) (first cap : Array Value) (w : World), (Instr.makeFunc fn first cap).run Try.prog w = .ok (.func fn first cap) w := fun _ _ _ _ => rfl
  have k0 := ((BlkL.new w [PV x] 24).alloc (.cells #[IV i] 3)).alloc (.cells #[.int .i64 t] 3)
  have k1 := (BlkL.new (w.alloc (.cells #[PV x] 24)) [IV i] 3).alloc (.cells #[.int .i64 t] 3)
  have k2 := BlkL.new ((w.alloc (.cells #[PV x] 24)).alloc (.cells #[IV i] 3)) [.int .i64 t] 3
  simp only [World.size_alloc] at k1 k2
  have hb : Below w.heap.size w (((w.alloc (.cells #[PV x] 24)).alloc (.cells #[IV i] 3)).alloc (.cells #[.int .i64 t] 3)) := (((Below.refl w.heap.size w).alloc (by simp <;> omega) _).alloc (by simp <;> omega) _).alloc (by simp <;> omega) _
  have hn : ∀ m, ¬ Q (w.heap.size + m) := fun m hm => by have := hQ _ hm; omega
  have HC := Lib.hid (ClV.mk3 (K := 103) k0 k1 k2 (hn 0) (hn 1) (hn 2))
  have HB := Lib.hid hb
  clear hb hn k0 k1 k2
  go_enter Try.func80, Try.ntmps80
  go_wp2
  go_ret
  exact ⟨_, rfl, ⟨HC.out, _, _, rfl⟩, HB.out⟩

theorem mk_confirm (w : World) (x i : Nat) (e : Nat) (Q : Nat → Prop) (hQ : ∀ p, Q p → p < w.heap.size) : Calls Try.prog 116 #[PV x, IV i, UV e] w fun e' w' => ∃ f, e' = .returned f ∧ (ClV w' Q (capsE x i (.confirm e)) f ∧ ∃ (K : Nat) (cs : Array Value), f = .func (.func K) #[] cs) ∧ Below w.heap.size w w' := by
  have hmf : ∀ (fn : Fn) (first cap : Array Value) (w : World), (Instr.makeFunc fn first cap).run Try.prog w = .ok (.func fn first cap) w := fun _ _ _ _ => rfl
  have k0 := ((BlkL.new w [PV x] 24).alloc (.cells #[IV i] 3)).alloc (.cells #[UV e] 120)
  have k1 := (BlkL.new (w.alloc (.cells #[PV x] 24)) [IV i] 3).alloc (.cells #[UV e] 120)
  have k2 := BlkL.new ((w.alloc (.cells #[PV x] 24)).alloc (.cells #[IV i] 3)) [UV e] 120
  simp only [World.size_alloc] at k1 k2
  have hb : Below w.heap.size w (((w.alloc (.cells #[PV x] 24)).alloc (.cells #[IV i] 3)).alloc (.cells #[UV e] 120)) := (((Below.refl w.heap.size w).alloc (by simp <;> omega) _).alloc (by simp <;> omega) _).alloc (by simp <;> omega) _
  have hn : ∀ m, ¬ Q (w.heap.size + m) := fun m hm => by have := hQ _ hm; omega
  have HC := Lib.hid (ClV.mk3 (K := 124) k0 k1 k2 (hn 0) (hn 1) (hn 2))
  have HB := Lib.hid hb
  clear hb hn k0 k1 k2
  go_enter Try.func116, Try.ntmps116
  go_wp2
  go_ret
  exact ⟨_, rfl, ⟨HC.out, _, _, rfl⟩, HB.out⟩

theorem mk_move (w : World) (x i : Nat) (e : Nat) (Q : Nat → Prop) (hQ : ∀ p, Q p → p < w.heap.size) : Calls Try.prog 118 #[PV x, IV i, UV e] w fun e' w' => ∃ f, e' = .returned f ∧ (ClV w' Q (capsE x i (.move e)) f ∧ ∃ (K : Nat) (cs : Array Value), f = .func (.func K) #[] cs) ∧ Below w.heap.size w w' := by
  have hmf : ∀ (fn : Fn) (first cap : Array Value) (w : World), (Instr.makeFunc fn first cap).run Try.prog w = .ok (.func fn first cap) w := fun _ _ _ _ => rfl
  have k0 := ((BlkL.new w [PV x] 24).alloc (.cells #[IV i] 3)).alloc (.cells #[UV e] 120)
  have k1 := (BlkL.new (w.alloc (.cells #[PV x] 24)) [IV i] 3).alloc (.cells #[UV e] 120)
  have k2 := BlkL.new ((w.alloc (.cells #[PV x] 24)).alloc (.cells #[IV i] 3)) [UV e] 120
  simp only [World.size_alloc] at k1 k2
  have hb : Below w.heap.size w (((w.alloc (.cells #[PV x] 24)).alloc (.cells #[IV i] 3)).alloc (.cells #[UV e] 120)) := (((Below.refl w.heap.size w).alloc (by simp <;> omega) _).alloc (by simp <;> omega) _).alloc (by simp <;> omega) _
  have hn : ∀ m, ¬ Q (w.heap.size + m) := fun m hm => by have := hQ _ hm; omega
  have HC := Lib.hid (ClV.mk3 (K := 125) k0 k1 k2 (hn 0) (hn 1) (hn 2))
  have HB := Lib.hid hb
  clear hb hn k0 k1 k2
  go_enter Try.func118, Try.ntmps118
  go_wp2
  go_ret
  exact ⟨_, rfl, ⟨HC.out, _, _, rfl⟩, HB.out⟩

theorem mk_mark (w : World) (x i : Nat) (old : Nat) (e : Nat) (Q : Nat → Prop) (hQ : ∀ p, Q p → p < w.heap.size) : Calls Try.prog 98 #[PV x, IV i, UV old, UV e] w fun e' w' => ∃ f, e' = .returned f ∧ (ClV w' Q (capsE x i (.mark old e)) f ∧ ∃ (K : Nat) (cs : Array Value), f = .func (.func K) #[] cs) ∧ Below w.heap.size w w' := by
  have hmf : ∀ (fn : Fn) (first cap : Array Value) (w : World), (Instr.makeFunc fn first cap).run Try.prog w = .ok (.func fn first cap) w := fun _ _ _ _ => rfl
  have k0 := (((BlkL.new w [PV x] 24).alloc (.cells #[IV i] 3)).alloc (.cells #[UV old] 120)).alloc (.cells #[UV e] 120)
  have k1 := ((BlkL.new (w.alloc (.cells #[PV x] 24)) [IV i] 3).alloc (.cells #[UV old] 120)).alloc (.cells #[UV e] 120)
  have k2 := (BlkL.new ((w.alloc (.cells #[PV x] 24)).alloc (.cells #[IV i] 3)) [UV old] 120).alloc (.cells #[UV e] 120)
  have k3 := BlkL.new (((w.alloc (.cells #[PV x] 24)).alloc (.cells #[IV i] 3)).alloc (.cells #[UV old] 120)) [UV e] 120
  simp only [World.size_alloc] at k1 k2 k3
  have hb : Below w.heap.size w ((((w.alloc (.cells #[PV x] 24)).alloc (.cells #[IV i] 3)).alloc (.cells #[UV old] 120)).alloc (.cells #[UV e] 120)) := ((((Below.refl w.heap.size w).alloc (by simp <;> omega) _).alloc (by simp <;> omega) _).alloc (by simp <;> omega) _).alloc (by simp <;> omega) _
  have hn : ∀ m, ¬ Q (w.heap.size + m) := fun m hm => by have := hQ _ hm; omega
  have HC := Lib.hid (ClV.mk4 (K := 115) k0 k1 k2 k3 (hn 0) (hn 1) (hn 2) (hn 3))
  have HB := Lib.hid hb
  clear hb hn k0 k1 k2 k3
  go_enter Try.func98, Try.ntmps98
  go_wp2
  go_ret
  exact ⟨_, rfl, ⟨HC.out, _, _, rfl⟩, HB.out⟩

theorem mk_look (w : World) (x i : Nat) (j : Nat) (e : Nat) (Q : Nat → Prop) (hQ : ∀ p, Q p → p < w.heap.size) : Calls Try.prog 105 #[PV x, IV i, IV j, UV e] w fun e' w' => ∃ f, e' = .returned f ∧ (ClV w' Q (capsE x i (.look j e)) f ∧ ∃ (K : Nat) (cs : Array Value), f = .func (.func K) #[] cs) ∧ Below w.heap.size w w' := by
  have hmf : ∀ (fn : Fn) (first cap : Array Value) (w : World), (Instr.makeFunc fn first cap).run Try.prog w = .ok (.func fn first cap) w := fun _ _ _ _ => rfl
  have k0 := (((BlkL.new w [PV x] 24).alloc (.cells #[IV i] 3)).alloc (.cells #[IV j] 3)).alloc (.cells #[UV e] 120)
  have k1 := ((BlkL.new (w.alloc (.cells #[PV x] 24)) [IV i] 3).alloc (.cells #[IV j] 3)).alloc (.cells #[UV e] 120)
  have k2 := (BlkL.new ((w.alloc (.cells #[PV x] 24)).alloc (.cells #[IV i] 3)) [IV j] 3).alloc (.cells #[UV e] 120)
  have k3 := BlkL.new (((w.alloc (.cells #[PV x] 24)).alloc (.cells #[IV i] 3)).alloc (.cells #[IV j] 3)) [UV e] 120
  simp only [World.size_alloc] at k1 k2 k3
  have hb : Below w.heap.size w ((((w.alloc (.cells #[PV x] 24)).alloc (.cells #[IV i] 3)).alloc (.cells #[IV j] 3)).alloc (.cells #[UV e] 120)) := ((((Below.refl w.heap.size w).alloc (by simp <;> omega) _).alloc (by simp <;> omega) _).alloc (by simp <;> omega) _).alloc (by simp <;> omega) _
  have hn : ∀ m, ¬ Q (w.heap.size + m) := fun m hm => by have := hQ _ hm; omega
  have HC := Lib.hid (ClV.mk4 (K := 117) k0 k1 k2 k3 (hn 0) (hn 1) (hn 2) (hn 3))
  have HB := Lib.hid hb
  clear hb hn k0 k1 k2 k3
  go_enter Try.func105, Try.ntmps105
  go_wp2
  go_ret
  exact ⟨_, rfl, ⟨HC.out, _, _, rfl⟩, HB.out⟩

end Go.Proofs.Ytpjgpiiibgogeaa
