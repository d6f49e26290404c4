/- Contracts: the deferred closures of ReadReply and ReadRequest. -/
import Derived.Test.YtndgladfcogiiaaWrC
import Derived.Test.YtndgladfcogiiaaFrF
namespace Go.Proofs.Ytndgladfcogiiaa
open Go.RowKit
set_option maxRecDepth 100000
set_option linter.unusedVariables false

def RpV.zero : RpV := ⟨0, false, 0, 0, 0, 0⟩
/-- What the closure leaves behind a panic. -/
def RrT (w : World) (rb fb : Nat) (w' : World) : Prop := BlkL w' rb RpV.zero.cells ∧ BlkL w' fb [.int .i64 3] ∧ Off [rb, fb] w w'
theorem rr_pan (w : World) (rb fb : Nat) (r : RpV) (v : Int) (u : TypeId) (pv : Value) (older : List PanicEntry) (hx : BlkL w rb r.cells) (hp : BlkL w fb [.int .i64 v]) (hne : rb ≠ fb) :
    CallsD Try.prog 101 #[.pointer (some ⟨rb, 0, none⟩), .pointer (some ⟨fb, 0, none⟩)] (.panicking ({ v := .iface u pv, recovered := false } :: older)) w fun e u' w' =>
      e = .returned (.tuple #[]) ∧ u' = .panicking ({ v := .iface u pv, recovered := true } :: older) ∧ RrT w rb fb w' := by
  have h0 := hx.cell 0 _ rfl
  have h1 := hx.cell 1 _ rfl
  have h2 := hx.cell 2 _ rfl
  have h3 := hx.cell 3 _ rfl
  have h4 := hx.cell 4 _ rfl
  have h5 := hx.cell 5 _ rfl
  have f0 := hx.froz 0 (by simp)
  have f1 := hx.froz 1 (by simp)
  have f2 := hx.froz 2 (by simp)
  have f3 := hx.froz 3 (by simp)
  have f4 := hx.froz 4 (by simp)
  have f5 := hx.froz 5 (by simp)
  have g0 := hp.cell 0 _ rfl
  have g1 := hp.froz 0 (by simp)
  have HX := Lib.hid hx
  have HP := Lib.hid hp
  have l0 := hx.lt
  have l1 := hp.lt
  clear hx hp
  refine callsD_of_wpS Try.func101 rfl fun c₀ cs hu => ?_
  apply wpS_seq
  apply wpS_region
  simp [wpOpsS, go_sem, recoverD, hu, Try.ntmps101, Exit.thenS]
  refine wpS_of_wp ?_
  clear hu
  go_wp2
  refine ⟨rfl, _, rfl, _, by simp [results, Try.results101], rfl, rfl, ?_, ?_, ?_⟩
  · exact ((((((HX.out.set 0 (.int .i64 0) (by simp)).set 1 (.bool false) (by simp)).set 2 (.int .i64 0) (by simp)).set 3 (.int .i64 0) (by simp)).set 4 (.int .i64 0) (by simp)).set 5 (.int .i64 0) (by simp)).other fb 0 (.int .i64 3) (by omega)
  · exact ((((((HP.out.other rb 0 (.int .i64 0) hne).other rb 1 (.bool false) hne).other rb 2 (.int .i64 0) hne).other rb 3 (.int .i64 0) hne).other rb 4 (.int .i64 0) hne).other rb 5 (.int .i64 0) hne).set 0 (.int .i64 3) (by simp)
  · exact (((((((Off.refl [rb, fb] w).setCell (p := ⟨rb, 0, none⟩) (by simp) _).setCell (p := ⟨rb, 1, none⟩) (by simp) _).setCell (p := ⟨rb, 2, none⟩) (by simp) _).setCell (p := ⟨rb, 3, none⟩) (by simp) _).setCell (p := ⟨rb, 4, none⟩) (by simp) _).setCell (p := ⟨rb, 5, none⟩) (by simp) _).setCell (p := ⟨fb, 0, none⟩) (by simp) _
theorem rr_ret (w : World) (rb fb : Nat) :
    CallsD Try.prog 101 #[.pointer (some ⟨rb, 0, none⟩), .pointer (some ⟨fb, 0, none⟩)] .returning w fun e u' w' =>
      e = .returned (.tuple #[]) ∧ u' = .returning ∧ w' = w := by
  refine callsD_of_wpS Try.func101 rfl fun c₀ cs hu => ?_
  apply wpS_seq
  apply wpS_region
  simp [wpOpsS, go_sem, recoverD, hu, Try.ntmps101, Exit.thenS]
  refine wpS_of_wp ?_
  have HU := Lib.hid hu
  clear hu
  go_wp2
  refine ⟨rfl, .returning, ?_, _, by simp [results, Try.results101], rfl, rfl, rfl⟩
  rw [← HU.out]

/-- What ReadReply answers. -/
def rrV (zs : List Nat) : RpV × Int := if 4096 < zs.length then (RpV.zero, 2) else if 34 ≤ zs.length ∧ (rdV zs).ok = true ∧ (rdV zs).bytes = zs then (rdV zs, 0) else (RpV.zero, 3)
def RrX (w : World) (zs : List Nat) (e : Ending) (w' : World) : Prop := e = .returned (.tuple #[(rrV zs).1.val, .int .i64 (rrV zs).2]) ∧ Below w.heap.size w w'
/-- The door of ReadReply: the named results stand in memory. -/
theorem rr_leave {w wd : World} {zs : List Nat} (rv : RpV) (f : Int) (hv : rrV zs = (rv, f)) (tmps : Array Value) (hr : BlkL wd w.heap.size rv.cells) (hf : BlkL wd (w.heap.size + 1) [.int .i64 f]) (hb : Below w.heap.size w wd)
    (t1 : tmps[2]? = some (.pointer (some ⟨w.heap.size, 0, none⟩))) (t2 : tmps[3]? = some (.pointer (some ⟨w.heap.size + 1, 0, none⟩))) :
    ∃ v, (results Try.f52 tmps).run Try.prog wd = .ok v wd ∧ RrX w zs (.returned v) wd := by
  have c0 := hr.cell 0 _ rfl
  have c1 := hr.cell 1 _ rfl
  have c2 := hr.cell 2 _ rfl
  have c3 := hr.cell 3 _ rfl
  have c4 := hr.cell 4 _ rfl
  have c5 := hr.cell 5 _ rfl
  have d0 := hf.cell 0 _ rfl
  refine ⟨.tuple #[rv.val, .int .i64 f], ?_, by rw [hv], hb⟩
  simp [results, Try.results52, go_sem, t1, t2, c0, c1, c2, c3, c4, c5, d0]

set_option maxHeartbeats 1600000 in
theorem readReply_long (w : World) (A : Option Addr) (n c : Nat) (zs : List Nat) (h : Arg w w.heap.size A n c zs) (hn : 4096 < n) : Calls Try.prog 52 #[.slice A n c] w (RrX w zs) := by
  have hv : rrV zs = (RpV.zero, 2) := by unfold rrV; rw [h.len, if_pos hn]
  have HV := Lib.hid hv
  have hd : decide (4096 < n) = true := by simpa using hn
  have hmf : ∀ (fn : Fn) (first cap : Array Value) (w : World), (Instr.makeFunc fn first cap).run Try.prog w = .ok (.func fn first cap) w := fun _ _ _ _ => rfl
  clear hv h
  go_enter_defers Try.func52, Try.ntmps52
  go_wp2
  have h2 : BlkL ((w.alloc (.cells #[.int .i64 0, .bool false, .int .i64 0, .int .i64 0, .int .i64 0, .int .i64 0] 82)).alloc (.cells #[.int .i64 2] 28)) (w.heap.size + 1) [.int .i64 2] := by
    have := BlkL.new (w.alloc (.cells #[.int .i64 0, .bool false, .int .i64 0, .int .i64 0, .int .i64 0, .int .i64 0] 82)) [.int .i64 2] 28
    rwa [World.size_alloc] at this
  exact rr_leave RpV.zero 2 HV.out _ ((BlkL.new w RpV.zero.cells 82).alloc _) h2 (((Below.refl _ _).alloc (Nat.le_refl _) _).alloc (by simp) _) rfl rfl

/-- The world with the named results. -/
abbrev rrW (w : World) : World := (w.alloc (.cells #[.int .i64 0, .bool false, .int .i64 0, .int .i64 0, .int .i64 0, .int .i64 0] 82)).alloc (.cells #[.int .i64 0] 28)
theorem rrW_f (w : World) : BlkL (rrW w) (w.heap.size + 1) [.int .i64 0] := by
  have := BlkL.new (w.alloc (.cells #[.int .i64 0, .bool false, .int .i64 0, .int .i64 0, .int .i64 0, .int .i64 0] 82)) [.int .i64 0] 28
  rwa [World.size_alloc] at this
theorem rrW_r (w : World) : BlkL (rrW w) w.heap.size RpV.zero.cells := (BlkL.new w RpV.zero.cells 82).alloc _
theorem rrW_b (w : World) : Below w.heap.size w (rrW w) := ((Below.refl _ _).alloc (Nat.le_refl _) _).alloc (by simp) _
/-- The door of ReadReply behind its closure. -/
theorem rr_pdoor {w wd : World} {zs : List Nat} (hv : rrV zs = (RpV.zero, 3)) (tmps : Array Value) (hr : BlkL wd w.heap.size RpV.zero.cells) (hf : BlkL wd (w.heap.size + 1) [.int .i64 0]) (hb : Below w.heap.size w wd)
    (t1 : tmps[2]? = some (.pointer (some ⟨w.heap.size, 0, none⟩))) (t2 : tmps[3]? = some (.pointer (some ⟨w.heap.size + 1, 0, none⟩))) (u : TypeId) (pv : Value) :
    Leaves Try.prog Try.f52 tmps (RrX w zs) [{ target := .fn (.func 101) #[.pointer (some ⟨w.heap.size, 0, none⟩), .pointer (some ⟨w.heap.size + 1, 0, none⟩)], args := #[] }] (.panicking [{ v := .iface u pv, recovered := false }]) wd := by
  refine leaves_cons (f := 101) (args := #[.pointer (some ⟨w.heap.size, 0, none⟩), .pointer (some ⟨w.heap.size + 1, 0, none⟩)]) (by simp) (by simp [go_sem]) ?_
  refine (rr_pan wd _ _ RpV.zero 0 u pv [] hr hf (by omega)).mono ?_
  rintro e u' w' ⟨rfl, rfl, h1, h2, h3⟩
  show Leaves _ _ _ _ [] _ _
  simp only [settle, List.dropWhile_nil]
  exact rr_leave RpV.zero 3 hv tmps h1 h2 (hb.trans (h3.below hb.size (by simp))) t1 t2
theorem rr_rdoor {w wd : World} {zs : List Nat} (rv : RpV) (f : Int) (hv : rrV zs = (rv, f)) (tmps : Array Value) (hr : BlkL wd w.heap.size rv.cells) (hf : BlkL wd (w.heap.size + 1) [.int .i64 f]) (hb : Below w.heap.size w wd)
    (t1 : tmps[2]? = some (.pointer (some ⟨w.heap.size, 0, none⟩))) (t2 : tmps[3]? = some (.pointer (some ⟨w.heap.size + 1, 0, none⟩))) :
    Leaves Try.prog Try.f52 tmps (RrX w zs) [{ target := .fn (.func 101) #[.pointer (some ⟨w.heap.size, 0, none⟩), .pointer (some ⟨w.heap.size + 1, 0, none⟩)], args := #[] }] .returning wd := by
  refine leaves_cons (f := 101) (args := #[.pointer (some ⟨w.heap.size, 0, none⟩), .pointer (some ⟨w.heap.size + 1, 0, none⟩)]) (by simp) (by simp [go_sem]) ?_
  refine (rr_ret wd _ _).mono ?_
  rintro e u' w' ⟨rfl, rfl, rfl⟩
  exact rr_leave rv f hv tmps hr hf hb t1 t2
set_option maxHeartbeats 1600000 in
theorem readReply_short (w : World) (A : Option Addr) (n c : Nat) (zs : List Nat) (h : Arg w w.heap.size A n c zs) (hn : n < 34) : Calls Try.prog 52 #[.slice A n c] w (RrX w zs) := by
  have hv : rrV zs = (RpV.zero, 3) := by unfold rrV; rw [h.len, if_neg (by omega), if_neg (by omega)]
  have HV := Lib.hid hv
  have hd : decide (4096 < (n : Int)) = false := by simp; omega
  have hmf : ∀ (fn : Fn) (first cap : Array Value) (w : World), (Instr.makeFunc fn first cap).run Try.prog w = .ok (.func fn first cap) w := fun _ _ _ _ => rfl
  have hs : RdS ((rrW w).alloc (.cells #[.slice A n c] 167)) w.heap.size (w.heap.size + 2) A n c zs := by
    refine ⟨?_, h.below ((rrW_b w).alloc (by simp [rrW]; omega) _), by omega⟩
    have := BlkL.new (rrW w) [.slice A n c] 167
    simpa using this
  have HS := Lib.hid hs
  clear hv h hs
  go_enter_defers Try.func52, Try.ntmps52
  go_wp2_with (with_reducible refine (pread_any _ _ _ _).mono ?_)
  rintro e w3 ⟨rfl, rfl⟩
  have hsz : ((w.alloc (.cells #[.int .i64 0, .bool false, .int .i64 0, .int .i64 0, .int .i64 0, .int .i64 0] 82)).alloc (.cells #[.int .i64 0] 28)).heap.size = w.heap.size + 2 := by simp
  rw [hsz]
  have HC := Lib.hid (rdReply_no _ _ _ _ _ _ _ HS.out hn)
  go_wp2_with (with_reducible refine (HC.out).mono ?_)
  rintro e w4 ⟨rfl, h4⟩
  have f4 : Off [w.heap.size + 2] (rrW w) w4 := by
    have : Off [w.heap.size + 2] (rrW w) ((rrW w).alloc (.cells #[.slice A n c] 167)) := (Off.refl _ _).alloc _
    exact this.trans h4
  exact rr_pdoor HV.out _ ((rrW_r w).off f4 (by simp)) ((rrW_f w).off f4 (by simp)) ((rrW_b w).trans (f4.below (by simp [rrW]; omega) (by simp))) rfl rfl _ _
theorem reply_good (w : World) (r : RpV) (h : r.ok = true) : Calls Try.prog 50 #[r.val] w fun e w' => ∃ XA xc, e = .returned (.tuple #[.slice XA 34 xc, .int .i64 0]) ∧ Arg w' w'.heap.size XA 34 xc r.bytes ∧ Below w.heap.size w w' := by
  refine (reply_any w r).mono ?_
  rintro e w' ⟨XA, xn, xc, he, ha, hb⟩
  rw [h] at he ha
  have hl := ha.len
  rw [if_pos rfl, r.len] at hl
  subst hl
  exact ⟨XA, xc, by simpa using he, by simpa using ha, hb⟩
theorem reply_badE (w : World) (r : RpV) (h : r.ok = false) : Calls Try.prog 50 #[r.val] w fun e w' => ∃ XA xn xc, e = .returned (.tuple #[.slice XA xn xc, .int .i64 1]) ∧ Arg w' w'.heap.size XA xn xc [] ∧ Below w.heap.size w w' := by
  refine (reply_any w r).mono ?_
  rintro e w' ⟨XA, xn, xc, he, ha, hb⟩
  rw [h] at he ha
  exact ⟨XA, xn, xc, by simpa using he, by simpa using ha, hb⟩
/-- The named results are written. -/
abbrev put7 (w : World) (rb fb : Nat) (r : RpV) (f : Int) : World :=
  ((((((w.setCell ⟨rb, 0, none⟩ (.int .i64 r.E)).setCell ⟨rb, 1, none⟩ (.bool r.G)).setCell ⟨rb, 2, none⟩ (.int .i64 r.a)).setCell ⟨rb, 3, none⟩ (.int .i64 r.b)).setCell ⟨rb, 4, none⟩ (.int .i64 r.c)).setCell ⟨rb, 5, none⟩ (.int .i64 r.d)).setCell ⟨fb, 0, none⟩ (.int .i64 f)
theorem put7_r {w : World} {rb fb : Nat} {q : RpV} (h : BlkL w rb q.cells) (hne : rb ≠ fb) (r : RpV) (f : Int) : BlkL (put7 w rb fb r f) rb r.cells :=
  ((((((h.set 0 (.int .i64 r.E) (by simp)).set 1 (.bool r.G) (by simp)).set 2 (.int .i64 r.a) (by simp)).set 3 (.int .i64 r.b) (by simp)).set 4 (.int .i64 r.c) (by simp)).set 5 (.int .i64 r.d) (by simp)).other fb 0 (.int .i64 f) (by omega)
theorem put7_f {w : World} {rb fb : Nat} {v : Int} (h : BlkL w fb [.int .i64 v]) (hne : rb ≠ fb) (r : RpV) (f : Int) : BlkL (put7 w rb fb r f) fb [.int .i64 f] :=
  ((((((h.other rb 0 (.int .i64 r.E) hne).other rb 1 (.bool r.G) hne).other rb 2 (.int .i64 r.a) hne).other rb 3 (.int .i64 r.b) hne).other rb 4 (.int .i64 r.c) hne).other rb 5 (.int .i64 r.d) hne).set 0 (.int .i64 f) (by simp)
theorem put7_b {w w0 : World} {B rb fb : Nat} (h : Below B w0 w) (h1 : B ≤ rb) (h2 : B ≤ fb) (r : RpV) (f : Int) : Below B w0 (put7 w rb fb r f) :=
  ((((((h.setCell h1 _).setCell h1 _).setCell h1 _).setCell h1 _).setCell h1 _).setCell h1 _).setCell h2 _
set_option maxHeartbeats 1600000 in
theorem readReply_bad (w : World) (A : Option Addr) (n c : Nat) (zs : List Nat) (h : Arg w w.heap.size A n c zs) (hn : 34 ≤ n) (hn2 : n ≤ 4096) (hb : (rdV zs).ok = false) : Calls Try.prog 52 #[.slice A n c] w (RrX w zs) := by
  have hv : rrV zs = (RpV.zero, 3) := by unfold rrV; rw [h.len, if_neg (by omega), if_neg (by rw [hb]; simp)]
  have HV := Lib.hid hv
  have hd : decide (4096 < (n : Int)) = false := by simp; omega
  have hmf : ∀ (fn : Fn) (first cap : Array Value) (w : World), (Instr.makeFunc fn first cap).run Try.prog w = .ok (.func fn first cap) w := fun _ _ _ _ => rfl
  have hs : RdS ((rrW w).alloc (.cells #[.slice A n c] 167)) w.heap.size (w.heap.size + 2) A n c zs := by
    refine ⟨?_, h.below ((rrW_b w).alloc (by simp [rrW]; omega) _), by omega⟩
    have := BlkL.new (rrW w) [.slice A n c] 167
    simpa using this
  have HS := Lib.hid hs
  have HB := Lib.hid hb
  clear hv h hs hb
  go_enter_defers Try.func52, Try.ntmps52
  go_wp2_with (with_reducible refine (pread_any _ _ _ _).mono ?_)
  rintro e w3 ⟨rfl, rfl⟩
  have hsz : ((w.alloc (.cells #[.int .i64 0, .bool false, .int .i64 0, .int .i64 0, .int .i64 0, .int .i64 0] 82)).alloc (.cells #[.int .i64 0] 28)).heap.size = w.heap.size + 2 := by simp
  rw [hsz]
  have HC := Lib.hid (rdReply_ok _ _ _ _ _ _ _ HS.out hn)
  go_wp2_with (with_reducible refine (HC.out).mono ?_)
  rintro e w4 ⟨rfl, h4⟩
  have f4 : Off [w.heap.size + 2] (rrW w) w4 := by
    have : Off [w.heap.size + 2] (rrW w) ((rrW w).alloc (.cells #[.slice A n c] 167)) := (Off.refl _ _).alloc _
    exact this.trans h4
  have HF4 := Lib.hid f4
  have h4s : w.heap.size + 2 < w4.heap.size := by have := h4.size; simp at this; omega
  clear h4 f4 HC HS
  obtain ⟨r, hr⟩ : ∃ r, rdV zs = r := ⟨_, rfl⟩
  rw [hr] at HB ⊢
  have hlt4 : w.heap.size + 2 < w4.heap.size := by have := h4s; omega
  have HR := Lib.hid (reply_badE (w4.alloc (.cells r.cells.toArray 82)) r HB.out)
  go_wp2_with fail
  refine (HR.out).mono ?_
  rintro e w5 ⟨XA, xn, xc, rfl, ha, hb5⟩
  have hb5' : Below w4.heap.size w4 w5 := ((Below.refl _ w4).alloc (Nat.le_refl _) _).trans (hb5.mono (by simp))
  have r5 := (rrW_r w).off (HF4.out.trans (Off.of_below hb5')) (by simp)
  have f5 := (rrW_f w).off (HF4.out.trans (Off.of_below hb5')) (by simp)
  have b5 : Below w.heap.size w w5 := (rrW_b w).trans ((HF4.out.trans (Off.of_below hb5')).below (by simp [rrW]; omega) (by simp))
  have R5 := Lib.hid r5
  have F5 := Lib.hid f5
  have B5 := Lib.hid b5
  have g0 := r5.cell 0 _ rfl
  have g1 := r5.cell 1 _ rfl
  have g2 := r5.cell 2 _ rfl
  have g3 := r5.cell 3 _ rfl
  have g4 := r5.cell 4 _ rfl
  have g5 := r5.cell 5 _ rfl
  have k0 := r5.froz 0 (by simp)
  have k1 := r5.froz 1 (by simp)
  have k2 := r5.froz 2 (by simp)
  have k3 := r5.froz 3 (by simp)
  have k4 := r5.froz 4 (by simp)
  have k5 := r5.froz 5 (by simp)
  have g6 := f5.cell 0 _ rfl
  have k6 := f5.froz 0 (by simp)
  have l5 := r5.lt
  have l6 := f5.lt
  clear r5 f5 b5 hb5 hb5' ha HR
  go_wp2
  exact rr_rdoor RpV.zero 3 HV.out _ (put7_r R5.out (by omega) RpV.zero 3) (put7_f F5.out (by omega) RpV.zero 3) (put7_b B5.out (by omega) (by omega) RpV.zero 3) rfl rfl
end Go.Proofs.Ytndgladfcogiiaa
