/- Contract: ReadRequest. -/
import Derived.Test.YtndgladfcogiiaaWrM
import Derived.Test.YtndgladfcogiiaaTokF
namespace Go.Proofs.Ytndgladfcogiiaa
open Go.RowKit
set_option maxRecDepth 100000
set_option linter.unusedVariables false

abbrev zB : List Value := [.int .u8 0, .int .i64 0, .slice none 0 0, .int .i64 0]
def RqT (w : World) (rb fb : Nat) (w' : World) : Prop := BlkL w' rb zB ∧ BlkL w' fb [.int .i64 3] ∧ Off [rb, fb] w w'
theorem rq_pan (w : World) (rb fb : Nat) (q0 q1 q2 q3 : Value) (v : Int) (u : TypeId) (pv : Value) (older : List PanicEntry) (hx : BlkL w rb [q0, q1, q2, q3]) (hp : BlkL w fb [.int .i64 v]) (hne : rb ≠ fb) :
    CallsD Try.prog 97 #[.pointer (some ⟨rb, 0, none⟩), .pointer (some ⟨fb, 0, none⟩)] (.panicking ({ v := .iface u pv, recovered := false } :: older)) w fun e u' w' =>
      e = .returned (.tuple #[]) ∧ u' = .panicking ({ v := .iface u pv, recovered := true } :: older) ∧ RqT w rb fb w' := by
  have h0 := hx.cell 0 _ rfl
  have h1 := hx.cell 1 _ rfl
  have h2 := hx.cell 2 _ rfl
  have h3 := hx.cell 3 _ rfl
  have f0 := hx.froz 0 (by simp)
  have f1 := hx.froz 1 (by simp)
  have f2 := hx.froz 2 (by simp)
  have f3 := hx.froz 3 (by simp)
  have g0 := hp.cell 0 _ rfl
  have g1 := hp.froz 0 (by simp)
  have HX := Lib.hid hx
  have HP := Lib.hid hp
  have l0 := hx.lt
  have l1 := hp.lt
  clear hx hp
  refine callsD_of_wpS Try.func97 rfl fun c₀ cs hu => ?_
  apply wpS_seq
  apply wpS_region
  simp [wpOpsS, go_sem, recoverD, hu, Try.ntmps97, Exit.thenS]
  refine wpS_of_wp ?_
  clear hu
  go_wp2
  refine ⟨rfl, _, rfl, _, by simp [results, Try.results97], rfl, rfl, ?_, ?_, ?_⟩
  · exact (HX.out.put4 (.int .u8 0) (.int .i64 0) (.slice none 0 0) (.int .i64 0)).other fb 0 (.int .i64 3) (by omega)
  · exact ((((HP.out.other rb 0 (.int .u8 0) hne).other rb 1 (.int .i64 0) hne).other rb 2 (.slice none 0 0) hne).other rb 3 (.int .i64 0) hne).set 0 (.int .i64 3) (by simp)
  · exact (((((Off.refl [rb, fb] w).setCell (p := ⟨rb, 0, none⟩) (by simp) _).setCell (p := ⟨rb, 1, none⟩) (by simp) _).setCell (p := ⟨rb, 2, none⟩) (by simp) _).setCell (p := ⟨rb, 3, none⟩) (by simp) _).setCell (p := ⟨fb, 0, none⟩) (by simp) _
theorem rq_ret (w : World) (rb fb : Nat) :
    CallsD Try.prog 97 #[.pointer (some ⟨rb, 0, none⟩), .pointer (some ⟨fb, 0, none⟩)] .returning w fun e u' w' =>
      e = .returned (.tuple #[]) ∧ u' = .returning ∧ w' = w := by
  refine callsD_of_wpS Try.func97 rfl fun c₀ cs hu => ?_
  apply wpS_seq
  apply wpS_region
  simp [wpOpsS, go_sem, recoverD, hu, Try.ntmps97, Exit.thenS]
  refine wpS_of_wp ?_
  have HU := Lib.hid hu
  clear hu
  go_wp2
  refine ⟨rfl, .returning, ?_, _, by simp [results, Try.results97], rfl, rfl, rfl⟩
  rw [← HU.out]

/-- What ReadRequest answers. -/
def rqV (zs : List Nat) : ClV × Int :=
  if 4096 < zs.length then (ClV.zero, 2) else
  match toldV zs with
  | none => (ClV.zero, 3)
  | some x => if rqC x.o x.p x.s x.ks.length = 0 ∧ rqB x.o x.p x.s x.ks = zs then (x, 0) else (ClV.zero, 3)
/-- How a call is answered: its key is new memory. -/
def ClX (w : World) (x : ClV × Int) (e : Ending) (w' : World) : Prop :=
  ∃ KA kc, e = .returned (.tuple #[ClA x.1.o x.1.p KA x.1.ks.length kc x.1.s, .int .i64 x.2]) ∧ OwnV w' w.heap.size KA x.1.ks.length kc (x.1.ks.map V8) ∧ Below w.heap.size w w'
theorem toldV_byte {zs : List Nat} (hb : ∀ d ∈ zs, d < 256) {x : ClV} (h : toldV zs = some x) : ∀ d ∈ x.ks, d < 256 := by
  unfold toldV at h
  have h1 : ∀ (l : List Nat) (a b : Nat), (∀ d ∈ l, d < 256) → ∀ d ∈ (l.drop a).take b, d < 256 := fun l a b hl d hd => hl d (List.mem_of_mem_drop (List.mem_of_mem_take hd))
  have h2 : ∀ d ∈ zs.drop 1, d < 256 := fun d hd => hb d (List.mem_of_mem_drop hd)
  split at h
  · cases h
  split at h
  · split at h
    · cases h
    · cases h; exact h1 _ _ _ h2
  split at h
  · split at h
    · cases h
    · cases h; exact h1 _ _ _ h2
  split at h
  · split at h
    · cases h; exact h1 _ _ _ h2
    · cases h; simp
  · cases h; simp
theorem toldV_len {zs : List Nat} {x : ClV} (h : toldV zs = some x) : 0 < zs.length := by
  unfold toldV at h
  split at h
  · cases h
  · omega
theorem rqB_len (o : Nat) (p s : Int) (zs : List Nat) : 0 < (rqB o p s zs).length := by
  unfold rqB
  repeat' split
  all_goals simp
/-- The door of ReadRequest: the named results stand in memory. -/
theorem rq_leave {w wd : World} {zs : List Nat} (x : ClV) (f : Int) (hv : rqV zs = (x, f)) {m : Nat} (hm : x.ks.length = m) {KA : Option Addr} {kc : Nat} (tmps : Array Value) (hr : BlkL wd w.heap.size (clB x.o x.p KA m kc x.s)) (hf : BlkL wd (w.heap.size + 1) [.int .i64 f]) (hk : OwnV wd w.heap.size KA m kc (x.ks.map V8)) (hb : Below w.heap.size w wd)
    (t1 : tmps[2]? = some (.pointer (some ⟨w.heap.size, 0, none⟩))) (t2 : tmps[3]? = some (.pointer (some ⟨w.heap.size + 1, 0, none⟩))) :
    ∃ v, (results Try.f46 tmps).run Try.prog wd = .ok v wd ∧ ClX w (rqV zs) (.returned v) wd := by
  subst hm
  have c0 := hr.cell 0 _ rfl
  have c1 := hr.cell 1 _ rfl
  have c2 := hr.cell 2 _ rfl
  have c3 := hr.cell 3 _ rfl
  have d0 := hf.cell 0 _ rfl
  refine ⟨.tuple #[ClA x.o x.p KA x.ks.length kc x.s, .int .i64 f], ?_, ⟨KA, kc, by rw [hv], by rw [hv]; exact hk, hb⟩⟩
  simp [results, Try.results46, go_sem, t1, t2, c0, c1, c2, c3, d0]
/-- The world with the named results. -/
abbrev rqW (w : World) : World := (w.alloc (.cells #[.int .u8 0, .int .i64 0, .slice none 0 0, .int .i64 0] 71)).alloc (.cells #[.int .i64 0] 28)
theorem rqW_f (w : World) : BlkL (rqW w) (w.heap.size + 1) [.int .i64 0] := by
  have := BlkL.new (w.alloc (.cells #[.int .u8 0, .int .i64 0, .slice none 0 0, .int .i64 0] 71)) [.int .i64 0] 28
  rwa [World.size_alloc] at this
theorem rqW_r (w : World) : BlkL (rqW w) w.heap.size zB := (BlkL.new w zB 71).alloc _
theorem rqW_b (w : World) : Below w.heap.size w (rqW w) := ((Below.refl _ _).alloc (Nat.le_refl _) _).alloc (by simp) _
theorem rq_pdoor {w wd : World} {zs : List Nat} (hv : rqV zs = (ClV.zero, 3)) (tmps : Array Value) {q0 q1 q2 q3 : Value} (hr : BlkL wd w.heap.size [q0, q1, q2, q3]) (hf : BlkL wd (w.heap.size + 1) [.int .i64 0]) (hb : Below w.heap.size w wd)
    (t1 : tmps[2]? = some (.pointer (some ⟨w.heap.size, 0, none⟩))) (t2 : tmps[3]? = some (.pointer (some ⟨w.heap.size + 1, 0, none⟩))) (u : TypeId) (pv : Value) :
    Leaves Try.prog Try.f46 tmps (ClX w (rqV zs)) [{ target := .fn (.func 97) #[.pointer (some ⟨w.heap.size, 0, none⟩), .pointer (some ⟨w.heap.size + 1, 0, none⟩)], args := #[] }] (.panicking [{ v := .iface u pv, recovered := false }]) wd := by
  refine leaves_cons (f := 97) (args := #[.pointer (some ⟨w.heap.size, 0, none⟩), .pointer (some ⟨w.heap.size + 1, 0, none⟩)]) (by simp) (by simp [go_sem]) ?_
  refine (rq_pan wd _ _ _ _ _ _ 0 u pv [] hr hf (by omega)).mono ?_
  rintro e u' w' ⟨rfl, rfl, h1, h2, h3⟩
  show Leaves _ _ _ _ [] _ _
  simp only [settle, List.dropWhile_nil]
  exact rq_leave ClV.zero 3 hv (m := 0) rfl tmps (KA := none) (kc := 0) h1 h2 (OwnV.nil _ _) (hb.trans (h3.below hb.size (by simp))) t1 t2
theorem rq_rdoor {w wd : World} {zs : List Nat} (x : ClV) (f : Int) (hv : rqV zs = (x, f)) {m : Nat} (hm : x.ks.length = m) {KA : Option Addr} {kc : Nat} (tmps : Array Value) (hr : BlkL wd w.heap.size (clB x.o x.p KA m kc x.s)) (hf : BlkL wd (w.heap.size + 1) [.int .i64 f]) (hk : OwnV wd w.heap.size KA m kc (x.ks.map V8)) (hb : Below w.heap.size w wd)
    (t1 : tmps[2]? = some (.pointer (some ⟨w.heap.size, 0, none⟩))) (t2 : tmps[3]? = some (.pointer (some ⟨w.heap.size + 1, 0, none⟩))) :
    Leaves Try.prog Try.f46 tmps (ClX w (rqV zs)) [{ target := .fn (.func 97) #[.pointer (some ⟨w.heap.size, 0, none⟩), .pointer (some ⟨w.heap.size + 1, 0, none⟩)], args := #[] }] .returning wd := by
  refine leaves_cons (f := 97) (args := #[.pointer (some ⟨w.heap.size, 0, none⟩), .pointer (some ⟨w.heap.size + 1, 0, none⟩)]) (by simp) (by simp [go_sem]) ?_
  refine (rq_ret wd _ _).mono ?_
  rintro e u' w' ⟨rfl, rfl, rfl⟩
  exact rq_leave x f hv hm tmps hr hf hk hb t1 t2
set_option maxHeartbeats 1600000 in
theorem readRequest_long (w : World) (A : Option Addr) (n c : Nat) (zs : List Nat) (h : Arg w w.heap.size A n c zs) (hn : 4096 < n) : Calls Try.prog 46 #[.slice A n c] w (ClX w (rqV zs)) := by
  have hv : rqV zs = (ClV.zero, 2) := by unfold rqV; rw [h.len, if_pos hn]
  have HV := Lib.hid hv
  have hd : decide (4096 < (n : Int)) = true := by simp; omega
  have hmf : ∀ (fn : Fn) (first cap : Array Value) (w : World), (Instr.makeFunc fn first cap).run Try.prog w = .ok (.func fn first cap) w := fun _ _ _ _ => rfl
  clear hv h
  go_enter_defers Try.func46, Try.ntmps46
  go_wp2
  have h2 : BlkL ((w.alloc (.cells #[.int .u8 0, .int .i64 0, .slice none 0 0, .int .i64 0] 71)).alloc (.cells #[.int .i64 2] 28)) (w.heap.size + 1) [.int .i64 2] := by
    have := BlkL.new (w.alloc (.cells #[.int .u8 0, .int .i64 0, .slice none 0 0, .int .i64 0] 71)) [.int .i64 2] 28
    rwa [World.size_alloc] at this
  exact rq_leave ClV.zero 2 HV.out (m := 0) rfl _ ((BlkL.new w zB 71).alloc _) h2 (OwnV.nil _ _) (((Below.refl _ _).alloc (Nat.le_refl _) _).alloc (by simp) _) rfl rfl
theorem rq_src {w : World} {A : Option Addr} {n c : Nat} {zs : List Nat} (h : Arg w w.heap.size A n c zs) : RdS ((rqW w).alloc (.cells #[.slice A n c] 167)) w.heap.size (w.heap.size + 2) A n c zs := by
  refine ⟨?_, h.below ((rqW_b w).alloc (by simp [rqW]; omega) _), by omega⟩
  have := BlkL.new (rqW w) [.slice A n c] 167
  simpa using this
set_option maxHeartbeats 1600000 in
theorem readRequest_fell (w : World) (A : Option Addr) (n c : Nat) (zs : List Nat) (h : Arg w w.heap.size A n c zs) (hn : n ≤ 4096) (ht : toldV zs = none) : Calls Try.prog 46 #[.slice A n c] w (ClX w (rqV zs)) := by
  have hv : rqV zs = (ClV.zero, 3) := by unfold rqV; rw [h.len, if_neg (by omega), ht]
  have HV := Lib.hid hv
  have hd : decide (4096 < (n : Int)) = false := by simp; omega
  have hmf : ∀ (fn : Fn) (first cap : Array Value) (w : World), (Instr.makeFunc fn first cap).run Try.prog w = .ok (.func fn first cap) w := fun _ _ _ _ => rfl
  have HS := Lib.hid (rq_src h)
  have HC := Lib.hid (readCall_none _ _ _ _ _ _ _ HS.out ht)
  clear hv h ht
  go_enter_defers Try.func46, Try.ntmps46
  go_wp2_with (with_reducible refine (pread_any _ _ _ _).mono ?_)
  rintro e w3 ⟨rfl, rfl⟩
  have hsz : ((w.alloc (.cells #[.int .u8 0, .int .i64 0, .slice none 0 0, .int .i64 0] 71)).alloc (.cells #[.int .i64 0] 28)).heap.size = w.heap.size + 2 := by simp
  rw [hsz]
  go_wp2_with (with_reducible refine (HC.out).mono ?_)
  rintro e w4 ⟨rfl, h4⟩
  have f4 : Off [w.heap.size + 2] (rqW w) w4 := by
    have : Off [w.heap.size + 2] (rqW w) ((rqW w).alloc (.cells #[.slice A n c] 167)) := (Off.refl _ _).alloc _
    exact this.trans h4
  exact rq_pdoor HV.out _ ((rqW_r w).off f4 (by simp)) ((rqW_f w).off f4 (by simp)) ((rqW_b w).trans (f4.below (by simp [rqW]; omega) (by simp))) rfl rfl _ _
/-- The named results are written. -/
abbrev put5 (w : World) (rb fb : Nat) (o p : Int) (v : Value) (s f : Int) : World := (put4w w rb o p v s).setCell ⟨fb, 0, none⟩ (.int .i64 f)
theorem put5_r {w : World} {rb fb : Nat} {q0 q1 q2 q3 : Value} (h : BlkL w rb [q0, q1, q2, q3]) (hne : rb ≠ fb) (o p : Int) (v : Value) (s f : Int) : BlkL (put5 w rb fb o p v s f) rb [.int .u8 o, .int .i64 p, v, .int .i64 s] :=
  (h.put4 _ _ _ _).other fb 0 (.int .i64 f) (by omega)
theorem put5_f {w : World} {rb fb : Nat} {v0 : Int} (h : BlkL w fb [.int .i64 v0]) (hne : rb ≠ fb) (o p : Int) (v : Value) (s f : Int) : BlkL (put5 w rb fb o p v s f) fb [.int .i64 f] :=
  ((((h.other rb 0 (.int .u8 o) hne).other rb 1 (.int .i64 p) hne).other rb 2 v hne).other rb 3 (.int .i64 s) hne).set 0 (.int .i64 f) (by simp)
theorem put5_o (w : World) (rb fb : Nat) (o p : Int) (v : Value) (s f : Int) : Off [rb, fb] w (put5 w rb fb o p v s f) :=
  (((((Off.refl [rb, fb] w).setCell (p := ⟨rb, 0, none⟩) (by simp) _).setCell (p := ⟨rb, 1, none⟩) (by simp) _).setCell (p := ⟨rb, 2, none⟩) (by simp) _).setCell (p := ⟨rb, 3, none⟩) (by simp) _).setCell (p := ⟨fb, 0, none⟩) (by simp) _
set_option maxHeartbeats 3200000 in
theorem readRequest_some (w : World) (A : Option Addr) (n c : Nat) (zs : List Nat) (h : Arg w w.heap.size A n c zs) (hn : n ≤ 4096) (x : ClV) (ht : toldV zs = some x) : Calls Try.prog 46 #[.slice A n c] w (ClX w (rqV zs)) := by
  have hv : rqV zs = if rqC x.o x.p x.s x.ks.length = 0 ∧ rqB x.o x.p x.s x.ks = zs then (x, 0) else (ClV.zero, 3) := by unfold rqV; rw [h.len, if_neg (by omega), ht]
  have HV := Lib.hid hv
  have hn0 := toldV_len ht
  rw [h.len] at hn0
  have hd : decide (4096 < (n : Int)) = false := by simp; omega
  have hmf : ∀ (fn : Fn) (first cap : Array Value) (w : World), (Instr.makeFunc fn first cap).run Try.prog w = .ok (.func fn first cap) w := fun _ _ _ _ => rfl
  have HS := Lib.hid (rq_src h)
  have HA0 := Lib.hid h
  have HKB := Lib.hid (toldV_byte h.byte ht)
  have HC := Lib.hid (readCall_some _ _ _ _ _ _ _ HS.out hn x ht)
  clear hv h ht
  go_enter_defers Try.func46, Try.ntmps46
  go_wp2_with (with_reducible refine (pread_any _ _ _ _).mono ?_)
  rintro e w3 ⟨rfl, rfl⟩
  have hsz : ((w.alloc (.cells #[.int .u8 0, .int .i64 0, .slice none 0 0, .int .i64 0] 71)).alloc (.cells #[.int .i64 0] 28)).heap.size = w.heap.size + 2 := by simp
  rw [hsz]
  go_wp2_with (with_reducible refine (HC.out).mono ?_)
  rintro e w4 ⟨KA, kc, rfl, hk4, h4⟩
  have f4 : Off [w.heap.size + 2] (rqW w) w4 := by
    have : Off [w.heap.size + 2] (rqW w) ((rqW w).alloc (.cells #[.slice A n c] 167)) := (Off.refl _ _).alloc _
    exact this.trans h4
  have h4s : w.heap.size + 2 < w4.heap.size := by have := h4.size; simp at this; omega
  obtain ⟨m, hm⟩ : ∃ m, x.ks.length = m := ⟨_, rfl⟩
  rw [hm] at hk4 HV ⊢
  have hsw : ((rqW w).alloc (.cells #[.slice A n c] 167)).heap.size = w.heap.size + 3 := by simp
  rw [hsw] at hk4
  have HM := Lib.hid hm
  have hk5 := hk4.below (w' := w4.alloc (.cells #[.int .u8 (x.o : Int), .int .i64 x.p, .slice KA m kc, .int .i64 x.s] 71)) ((Below.refl _ _).alloc (Nat.le_refl _) _)
  have HR := Lib.hid (request_any (w4.alloc (.cells #[.int .u8 (x.o : Int), .int .i64 x.p, .slice KA m kc, .int .i64 x.s] 71)) _ x.o x.p x.s KA m kc x.ks (hk5.arg' HKB.out) (Nat.le_refl _))
  have HK5 := Lib.hid hk5
  have HF4 := Lib.hid f4
  clear h4 f4 HC HS hk4 hk5 hm
  go_wp2_with fail
  with_reducible refine (HR.out).mono ?_
  rintro e w5 ⟨XA, xn, xc, rfl, ha, hb5⟩
  have hb5' : Below w4.heap.size w4 w5 := ((Below.refl _ w4).alloc (Nat.le_refl _) _).trans (hb5.mono (by simp))
  have r5 := (rqW_r w).off (HF4.out.trans (Off.of_below hb5')) (by simp)
  have f5 := (rqW_f w).off (HF4.out.trans (Off.of_below hb5')) (by simp)
  have b5 : Below w.heap.size w w5 := (rqW_b w).trans ((HF4.out.trans (Off.of_below hb5')).below (by simp [rqW]; omega) (by simp))
  have R5 := Lib.hid r5
  have F5 := Lib.hid f5
  have B5 := Lib.hid b5
  have K5 := Lib.hid (HK5.out.below hb5)
  have g0 := r5.cell 0 _ rfl
  have g1 := r5.cell 1 _ rfl
  have g2 := r5.cell 2 _ rfl
  have g3 := r5.cell 3 _ rfl
  have k0 := r5.froz 0 (by simp)
  have k1 := r5.froz 1 (by simp)
  have k2 := r5.froz 2 (by simp)
  have k3 := r5.froz 3 (by simp)
  have g6 := f5.cell 0 _ rfl
  have k6 := f5.froz 0 (by simp)
  have l5 := r5.lt
  have l6 := f5.lt
  have t5 : BlkL w5 w4.heap.size [.int .u8 (x.o : Int), .int .i64 x.p, .slice KA m kc, .int .i64 x.s] := (BlkL.new w4 [.int .u8 (x.o : Int), .int .i64 x.p, .slice KA m kc, .int .i64 x.s] 71).below hb5
  have q0 := t5.cell 0 _ rfl
  have q1 := t5.cell 1 _ rfl
  have q2 := t5.cell 2 _ rfl
  have q3 := t5.cell 3 _ rfl
  have l7 := t5.lt
  have a5 : Arg w5 w.heap.size A n c zs := HA0.out.below b5
  rw [HM.out] at ha ⊢
  have HZ : rqV zs = (ClV.zero, 3) → (ClV.zero.ks.length = 0) := fun _ => rfl
  by_cases hc0 : rqC x.o x.p x.s m = 0
  · rw [hc0] at HV ha ⊢
    simp only [if_true, true_and] at ha HV
    have hxn : 0 < xn := by have := ha.len; have := rqB_len x.o x.p x.s x.ks; omega
    obtain ⟨b, hq⟩ : ∃ b : Bool, decide (rqB x.o x.p x.s x.ks = zs) = b := ⟨_, rfl⟩
    have HQ := Lib.hid hq
    have HE : Hid (Calls Try.prog 75 #[.slice XA xn xc, .slice A n c] w5 fun e w' => e = .returned (.bool b) ∧ w5 = w') := Lib.hid (equal_any w5 _ _ XA A xn xc n c _ _ b hq ha a5 hxn hn0)
    clear r5 f5 b5 hb5 hb5' ha HR t5 a5 hq
    cases b with
    | true =>
      have hv : rqV zs = (x, 0) := by rw [HV.out, if_pos (by simpa using HQ.out)]
      have HV2 := Lib.hid hv
      clear hv
      go_wp2_with fail
      with_reducible refine (HE.out).mono ?_
      rintro e w6 ⟨rfl, rfl⟩
      go_wp2
      exact rq_rdoor x 0 HV2.out HM.out _ (put5_r R5.out (by omega) _ _ _ _ _) (put5_f F5.out (by omega) _ _ _ _ _) ((K5.out.off (put5_o _ _ _ _ _ _ _ _) (fun y hy => by have := (K5.out.lt y hy).1; simp; omega)).mono (by omega)) (B5.out.trans ((put5_o _ _ _ _ _ _ _ _).below B5.out.size (by simp))) rfl rfl
    | false =>
      have hv : rqV zs = (ClV.zero, 3) := by rw [HV.out, if_neg (by simpa using HQ.out)]
      have HV2 := Lib.hid hv
      clear hv
      go_wp2_with fail
      with_reducible refine (HE.out).mono ?_
      rintro e w6 ⟨rfl, rfl⟩
      go_wp2
      exact rq_rdoor ClV.zero 3 HV2.out (m := 0) rfl _ (KA := none) (kc := 0) (put5_r R5.out (by omega) _ _ _ _ _) (put5_f F5.out (by omega) _ _ _ _ _) (OwnV.nil _ _) (B5.out.trans ((put5_o _ _ _ _ _ _ _ _).below B5.out.size (by simp))) rfl rfl
  · have hne : (rqC x.o x.p x.s m != 0) = true := by simpa using hc0
    have hv : rqV zs = (ClV.zero, 3) := by rw [HV.out, if_neg (fun hh => hc0 hh.1)]
    have HV2 := Lib.hid hv
    obtain ⟨f, hf⟩ : ∃ f, rqC x.o x.p x.s m = f := ⟨_, rfl⟩
    rw [hf] at hne ⊢
    clear r5 f5 b5 hb5 hb5' ha HR t5 a5 hv hf
    go_wp2
    exact rq_rdoor ClV.zero 3 HV2.out (m := 0) rfl _ (KA := none) (kc := 0) (put5_r R5.out (by omega) _ _ _ _ _) (put5_f F5.out (by omega) _ _ _ _ _) (OwnV.nil _ _) (B5.out.trans ((put5_o _ _ _ _ _ _ _ _).below B5.out.size (by simp))) rfl rfl
theorem readRequest_any (w : World) (A : Option Addr) (n c : Nat) (zs : List Nat) (h : Arg w w.heap.size A n c zs) : Calls Try.prog 46 #[.slice A n c] w (ClX w (rqV zs)) := by
  by_cases h1 : 4096 < n
  · exact readRequest_long w A n c zs h h1
  cases ht : toldV zs with
  | none => exact readRequest_fell w A n c zs h (by omega) ht
  | some x => exact readRequest_some w A n c zs h (by omega) x ht
end Go.Proofs.Ytndgladfcogiiaa
