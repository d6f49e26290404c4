/- Contract: readCall. -/
import Derived.Test.YtndgladfcogiiaaWrK
import Derived.Test.YtndgladfcogiiaaTokL
import Derived.RegionTactic
import Derived.BigRegion
namespace Go.Proofs.Ytndgladfcogiiaa
open Go.RowKit
set_option maxRecDepth 100000
set_option linter.unusedVariables false

instance (zs : List Nat) : Decidable (decOk zs) := by unfold decOk; infer_instance
/-- A call's fields. -/
structure ClV where
  o : Nat
  p : Int
  s : Int
  ks : List Nat
def ClV.zero : ClV := ⟨0, 0, 0, []⟩
/-- The call that stands at the places of the bytes; none, if they end ahead of it. -/
def toldV (zs : List Nat) : Option ClV :=
  if zs.length = 0 then none
  else if zs.getD 0 0 = 1 then
    (if zs.length - 1 < 2 ∨ zs.length - 1 < 2 + (zs.drop 1).getD 1 0 + 8 then none
    else some ⟨1, ((zs.drop 1).getD 0 0 : Nat), IntKind.i64.wrap (Tk.numV (((zs.drop 1).drop (2 + (zs.drop 1).getD 1 0)).take 8) : Nat), ((zs.drop 1).drop 2).take ((zs.drop 1).getD 1 0)⟩)
  else if zs.getD 0 0 = 2 ∨ zs.getD 0 0 = 4 then
    (if zs.length - 1 < 2 ∨ zs.length - 1 < 2 + (zs.drop 1).getD 1 0 then none else some ⟨zs.getD 0 0, ((zs.drop 1).getD 0 0 : Nat), 0, ((zs.drop 1).drop 2).take ((zs.drop 1).getD 1 0)⟩)
  else if zs.getD 0 0 = 3 then (if decOk (zs.drop 1) then some ⟨3, ((zs.drop 1).getD 2 0 : Nat), (dSer (zs.drop 1) : Nat), dKey (zs.drop 1)⟩ else some ⟨3, 0, 0, []⟩)
  else some ⟨zs.getD 0 0, 0, 0, []⟩
/-- How readCall ends where the bytes are enough. -/
def CallE (w : World) (sb : Nat) (x : ClV) (e : Ending) (w' : World) : Prop :=
  ∃ KA kc, e = .returned (ClA x.o x.p KA x.ks.length kc x.s) ∧ OwnV w' w.heap.size KA x.ks.length kc (x.ks.map V8) ∧ Off [sb] w w'
abbrev zW (w : World) : World := w.alloc (.cells #[.int .u8 0, .int .i64 0, .slice none 0 0, .int .i64 0] 71)
theorem rc_ret {w wf : World} {sb : Nat} (x : ClV) {KA : Option Addr} {kc : Nat} (tmps : Array Value) (hb : BlkL wf w.heap.size (clB x.o x.p KA x.ks.length kc x.s)) (t2 : tmps[2]? = some (.pointer (some ⟨w.heap.size, 0, none⟩)))
    (hk : OwnV wf w.heap.size KA x.ks.length kc (x.ks.map V8)) (ho : Off [sb] w wf) : bodyPost Try.prog Try.f98 (CallE w sb x) Exit.ret { tmps := tmps, defers := [] } wf := by
  have c0 := hb.cell 0 _ rfl
  have c1 := hb.cell 1 _ rfl
  have c2 := hb.cell 2 _ rfl
  have c3 := hb.cell 3 _ rfl
  exact bodyPost_ret (v := ClA x.o x.p KA x.ks.length kc x.s) (by simp [results, Try.results98, go_sem, t2, c0, c1, c2, c3]) rfl ⟨KA, kc, rfl, hk, ho⟩
/-- The world behind the first byte. -/
structure RcI (w w2 : World) (B sb cb o n : Nat) (A : Option Addr) (c : Nat) (l : List Nat) : Prop where
  k : BlkL w2 cb [.int .u8 (o : Int), .int .i64 0, .slice none 0 0, .int .i64 0]
  r : BlkL w2 w.heap.size [.int .u8 0, .int .i64 0, .slice none 0 0, .int .i64 0]
  s : RdS w2 B sb A n c l
  f : Off [sb] w w2
  lt : w.heap.size < cb ∧ sb < w.heap.size
  top : w2.heap.size = cb + 1
theorem RcI.make {w w1 : World} {B sb n c : Nat} {A : Option Addr} {l : List Nat} (o : Nat) (h0 : sb < w.heap.size) (hs : RdS w1 B sb A n c l) (hf : Off [sb] (zW w) w1) : RcI w (w1.alloc (.cells #[.int .u8 (o : Int), .int .i64 0, .slice none 0 0, .int .i64 0] 71)) B sb w1.heap.size o n A c l := by
  have hz := hf.size
  simp only [World.size_alloc] at hz
  refine ⟨BlkL.new w1 _ _, ((BlkL.new w [.int .u8 0, .int .i64 0, .slice none 0 0, .int .i64 0] 71).off hf (by simp; omega)).alloc _, hs.below ((Below.refl _ _).alloc (Nat.le_refl _) _), ?_, ⟨by omega, h0⟩, by simp⟩
  exact (((Off.refl [sb] w).alloc _).trans hf).alloc _
/-- The end: c is laid into the named result. -/
abbrev put4w (w : World) (rb : Nat) (o p : Int) (v : Value) (s : Int) : World := (((w.setCell ⟨rb, 0, none⟩ (.int .u8 o)).setCell ⟨rb, 1, none⟩ (.int .i64 p)).setCell ⟨rb, 2, none⟩ v).setCell ⟨rb, 3, none⟩ (.int .i64 s)
theorem rc_fin {w wf : World} {sb m : Nat} (y x : ClV) (hy : y = x) (e5 : x.ks.length = m) {KA : Option Addr} {kc : Nat} {q0 q1 q2 q3 : Value} (tmps : Array Value) (hb : BlkL wf w.heap.size [q0, q1, q2, q3]) (t2 : tmps[2]? = some (.pointer (some ⟨w.heap.size, 0, none⟩)))
    (hk : OwnV wf w.heap.size KA m kc (x.ks.map V8)) (hn : w.heap.size ∉ bkV KA) (ho : Off [sb] w wf) : bodyPost Try.prog Try.f98 (CallE w sb y) Exit.ret { tmps := tmps, defers := [] } (put4w wf w.heap.size x.o x.p (.slice KA m kc) x.s) := by
  subst hy
  subst e5
  have f4 : Off [w.heap.size] wf (put4w wf w.heap.size y.o y.p (.slice KA y.ks.length kc) y.s) := ((((Off.refl [w.heap.size] wf).setCell (p := ⟨w.heap.size, 0, none⟩) (by simp) _).setCell (p := ⟨w.heap.size, 1, none⟩) (by simp) _).setCell (p := ⟨w.heap.size, 2, none⟩) (by simp) _).setCell (p := ⟨w.heap.size, 3, none⟩) (by simp) _
  refine rc_ret y tmps (hb.put4 _ _ _ _) t2 (hk.off f4 (fun z hz hs => by simp at hs; subst hs; exact hn hz)) ?_
  exact (((ho.setNew (p := ⟨w.heap.size, 0, none⟩) (Nat.le_refl _) _).setNew (p := ⟨w.heap.size, 1, none⟩) (Nat.le_refl _) _).setNew (p := ⟨w.heap.size, 2, none⟩) (Nat.le_refl _) _).setNew (p := ⟨w.heap.size, 3, none⟩) (Nat.le_refl _) _
set_option maxHeartbeats 1600000 in
theorem rc_empty (w : World) (B sb : Nat) (A : Option Addr) (n c : Nat) (zs : List Nat) (h : RdS w B sb A n c zs) (hn : n = 0) : Calls Try.prog 98 #[.pointer (some ⟨sb, 0, none⟩)] w (FellO w [sb]) := by
  have HX := Lib.hid (num1_no (zW w) B sb A n c zs (h.below ((Below.refl _ _).alloc (Nat.le_refl _) _)) (by omega))
  have HF : Hid (Off [sb] w (zW w)) := Lib.hid ((Off.refl _ _).alloc _)
  clear h
  go_enter Try.func98, Try.ntmps98
  go_wp2_with fail
  with_reducible refine (HX.out).mono ?_
  rintro e w' ⟨rfl, rfl⟩
  exact ⟨rfl, rfl, HF.out⟩
set_option maxHeartbeats 1600000 in
theorem rc_1_k0 (w : World) (B sb : Nat) (A : Option Addr) (n c : Nat) (zs : List Nat) (h : RdS w B sb A n c zs) (ho : zs.getD 0 0 = 1) (hn1 : 1 ≤ n) (hn : n - 1 < 1) : Calls Try.prog 98 #[.pointer (some ⟨sb, 0, none⟩)] w (FellO w [sb]) := by
  have hob : 1 < 256 := by have := h.arg.lt 0; omega
  have e0 : IntKind.u8.wrap (1 : Int) = (1 : Int) := IntWalk.u8_in _ (by omega)
  have HN : Hid (Calls Try.prog 123 #[.pointer (some ⟨sb, 0, none⟩), .int .i64 1] (zW w) (NumS (zW w) B sb 1 n 1 zs)) := Lib.hid (num1 (zW w) B sb 1 A n c zs (h.below ((Below.refl _ _).alloc (Nat.le_refl _) _)) ho (by omega))
  have HLT := Lib.hid h.blk.lt
  clear h ho
  go_enter Try.func98, Try.ntmps98
  go_wp2_with fail
  with_reducible refine (HN.out).mono ?_
  rintro e w1 ⟨A1, c1, rfl, hs1, hf1⟩
  have HI0 : RcI w (w1.alloc (.cells #[.int .u8 1, .int .i64 0, .slice none 0 0, .int .i64 0] 71)) B sb w1.heap.size 1 (n - 1) A1 c1 (zs.drop 1) := RcI.make 1 HLT.out hs1 hf1
  have HI := Lib.hid HI0
  clear hs1 hf1 HN
  have k0 := HI0.k.cell 0 _ rfl
  have k1 := HI0.k.cell 1 _ rfl
  have k2 := HI0.k.cell 2 _ rfl
  have k3 := HI0.k.cell 3 _ rfl
  have hne : w1.heap.size ≠ sb := by have := HI0.lt; omega
  have hBc : B ≤ w1.heap.size := by have := HI0.lt; have := HI0.s.le; omega
  have lk := HI0.k.lt
  clear HI0
  have HX : Hid (Calls Try.prog 126 #[.pointer (some ⟨sb, 0, none⟩), .pointer (some ⟨w1.heap.size, 0, none⟩)] (w1.alloc (.cells #[.int .u8 1, .int .i64 0, .slice none 0 0, .int .i64 0] 71)) (FellO (w1.alloc (.cells #[.int .u8 1, .int .i64 0, .slice none 0 0, .int .i64 0] 71)) [sb, w1.heap.size])) := Lib.hid (key_no0 _ B sb w1.heap.size 1 _ _ _ _ HI.out.s HI.out.k hne hBc hn)
  go_wp2_with fail
  with_reducible refine (HX.out).mono ?_
  rintro e w3 ⟨rfl, hf3⟩
  exact ⟨rfl, rfl, HI.out.f.new hf3 (fun y hy => by have := HI.out.lt; simp at hy; simp; omega)⟩
set_option maxHeartbeats 1600000 in
theorem rc_1_k1 (w : World) (B sb : Nat) (A : Option Addr) (n c : Nat) (zs : List Nat) (h : RdS w B sb A n c zs) (ho : zs.getD 0 0 = 1) (hn1 : 1 ≤ n) (hn0 : 1 ≤ n - 1) (hn : n - 1 < 2) : Calls Try.prog 98 #[.pointer (some ⟨sb, 0, none⟩)] w (FellO w [sb]) := by
  have hob : 1 < 256 := by have := h.arg.lt 0; omega
  have e0 : IntKind.u8.wrap (1 : Int) = (1 : Int) := IntWalk.u8_in _ (by omega)
  have HN : Hid (Calls Try.prog 123 #[.pointer (some ⟨sb, 0, none⟩), .int .i64 1] (zW w) (NumS (zW w) B sb 1 n 1 zs)) := Lib.hid (num1 (zW w) B sb 1 A n c zs (h.below ((Below.refl _ _).alloc (Nat.le_refl _) _)) ho (by omega))
  have HLT := Lib.hid h.blk.lt
  clear h ho
  go_enter Try.func98, Try.ntmps98
  go_wp2_with fail
  with_reducible refine (HN.out).mono ?_
  rintro e w1 ⟨A1, c1, rfl, hs1, hf1⟩
  have HI0 : RcI w (w1.alloc (.cells #[.int .u8 1, .int .i64 0, .slice none 0 0, .int .i64 0] 71)) B sb w1.heap.size 1 (n - 1) A1 c1 (zs.drop 1) := RcI.make 1 HLT.out hs1 hf1
  have HI := Lib.hid HI0
  clear hs1 hf1 HN
  have k0 := HI0.k.cell 0 _ rfl
  have k1 := HI0.k.cell 1 _ rfl
  have k2 := HI0.k.cell 2 _ rfl
  have k3 := HI0.k.cell 3 _ rfl
  have hne : w1.heap.size ≠ sb := by have := HI0.lt; omega
  have hBc : B ≤ w1.heap.size := by have := HI0.lt; have := HI0.s.le; omega
  have lk := HI0.k.lt
  clear HI0
  have HX : Hid (Calls Try.prog 126 #[.pointer (some ⟨sb, 0, none⟩), .pointer (some ⟨w1.heap.size, 0, none⟩)] (w1.alloc (.cells #[.int .u8 1, .int .i64 0, .slice none 0 0, .int .i64 0] 71)) (FellO (w1.alloc (.cells #[.int .u8 1, .int .i64 0, .slice none 0 0, .int .i64 0] 71)) [sb, w1.heap.size])) := Lib.hid (key_no1 _ B sb w1.heap.size 1 _ _ _ _ HI.out.s HI.out.k hne hBc hn0 hn)
  go_wp2_with fail
  with_reducible refine (HX.out).mono ?_
  rintro e w3 ⟨rfl, hf3⟩
  exact ⟨rfl, rfl, HI.out.f.new hf3 (fun y hy => by have := HI.out.lt; simp at hy; simp; omega)⟩
set_option maxHeartbeats 1600000 in
theorem rc_1_k2 (w : World) (B sb : Nat) (A : Option Addr) (n c : Nat) (zs : List Nat) (h : RdS w B sb A n c zs) (ho : zs.getD 0 0 = 1) (hn1 : 1 ≤ n) (hn0 : 2 ≤ n - 1) (hn : n - 1 < 2 + (zs.drop 1).getD 1 0) : Calls Try.prog 98 #[.pointer (some ⟨sb, 0, none⟩)] w (FellO w [sb]) := by
  have hob : 1 < 256 := by have := h.arg.lt 0; omega
  have e0 : IntKind.u8.wrap (1 : Int) = (1 : Int) := IntWalk.u8_in _ (by omega)
  have HN : Hid (Calls Try.prog 123 #[.pointer (some ⟨sb, 0, none⟩), .int .i64 1] (zW w) (NumS (zW w) B sb 1 n 1 zs)) := Lib.hid (num1 (zW w) B sb 1 A n c zs (h.below ((Below.refl _ _).alloc (Nat.le_refl _) _)) ho (by omega))
  have HLT := Lib.hid h.blk.lt
  clear h ho
  go_enter Try.func98, Try.ntmps98
  go_wp2_with fail
  with_reducible refine (HN.out).mono ?_
  rintro e w1 ⟨A1, c1, rfl, hs1, hf1⟩
  have HI0 : RcI w (w1.alloc (.cells #[.int .u8 1, .int .i64 0, .slice none 0 0, .int .i64 0] 71)) B sb w1.heap.size 1 (n - 1) A1 c1 (zs.drop 1) := RcI.make 1 HLT.out hs1 hf1
  have HI := Lib.hid HI0
  clear hs1 hf1 HN
  have k0 := HI0.k.cell 0 _ rfl
  have k1 := HI0.k.cell 1 _ rfl
  have k2 := HI0.k.cell 2 _ rfl
  have k3 := HI0.k.cell 3 _ rfl
  have hne : w1.heap.size ≠ sb := by have := HI0.lt; omega
  have hBc : B ≤ w1.heap.size := by have := HI0.lt; have := HI0.s.le; omega
  have lk := HI0.k.lt
  clear HI0
  have HX : Hid (Calls Try.prog 126 #[.pointer (some ⟨sb, 0, none⟩), .pointer (some ⟨w1.heap.size, 0, none⟩)] (w1.alloc (.cells #[.int .u8 1, .int .i64 0, .slice none 0 0, .int .i64 0] 71)) (FellO (w1.alloc (.cells #[.int .u8 1, .int .i64 0, .slice none 0 0, .int .i64 0] 71)) [sb, w1.heap.size])) := Lib.hid (key_no2 _ B sb w1.heap.size 1 _ _ _ _ HI.out.s HI.out.k hne hBc hn0 hn)
  go_wp2_with fail
  with_reducible refine (HX.out).mono ?_
  rintro e w3 ⟨rfl, hf3⟩
  exact ⟨rfl, rfl, HI.out.f.new hf3 (fun y hy => by have := HI.out.lt; simp at hy; simp; omega)⟩
set_option maxHeartbeats 1600000 in
theorem rc_2_k0 (w : World) (B sb : Nat) (A : Option Addr) (n c : Nat) (zs : List Nat) (h : RdS w B sb A n c zs) (ho : zs.getD 0 0 = 2) (hn1 : 1 ≤ n) (hn : n - 1 < 1) : Calls Try.prog 98 #[.pointer (some ⟨sb, 0, none⟩)] w (FellO w [sb]) := by
  have hob : 2 < 256 := by have := h.arg.lt 0; omega
  have e0 : IntKind.u8.wrap (2 : Int) = (2 : Int) := IntWalk.u8_in _ (by omega)
  have HN : Hid (Calls Try.prog 123 #[.pointer (some ⟨sb, 0, none⟩), .int .i64 1] (zW w) (NumS (zW w) B sb 1 n 2 zs)) := Lib.hid (num1 (zW w) B sb 2 A n c zs (h.below ((Below.refl _ _).alloc (Nat.le_refl _) _)) ho (by omega))
  have HLT := Lib.hid h.blk.lt
  clear h ho
  go_enter Try.func98, Try.ntmps98
  go_wp2_with fail
  with_reducible refine (HN.out).mono ?_
  rintro e w1 ⟨A1, c1, rfl, hs1, hf1⟩
  have HI0 : RcI w (w1.alloc (.cells #[.int .u8 2, .int .i64 0, .slice none 0 0, .int .i64 0] 71)) B sb w1.heap.size 2 (n - 1) A1 c1 (zs.drop 1) := RcI.make 2 HLT.out hs1 hf1
  have HI := Lib.hid HI0
  clear hs1 hf1 HN
  have k0 := HI0.k.cell 0 _ rfl
  have k1 := HI0.k.cell 1 _ rfl
  have k2 := HI0.k.cell 2 _ rfl
  have k3 := HI0.k.cell 3 _ rfl
  have hne : w1.heap.size ≠ sb := by have := HI0.lt; omega
  have hBc : B ≤ w1.heap.size := by have := HI0.lt; have := HI0.s.le; omega
  have lk := HI0.k.lt
  clear HI0
  have HX : Hid (Calls Try.prog 126 #[.pointer (some ⟨sb, 0, none⟩), .pointer (some ⟨w1.heap.size, 0, none⟩)] (w1.alloc (.cells #[.int .u8 2, .int .i64 0, .slice none 0 0, .int .i64 0] 71)) (FellO (w1.alloc (.cells #[.int .u8 2, .int .i64 0, .slice none 0 0, .int .i64 0] 71)) [sb, w1.heap.size])) := Lib.hid (key_no0 _ B sb w1.heap.size 2 _ _ _ _ HI.out.s HI.out.k hne hBc hn)
  go_wp2_with fail
  with_reducible refine (HX.out).mono ?_
  rintro e w3 ⟨rfl, hf3⟩
  exact ⟨rfl, rfl, HI.out.f.new hf3 (fun y hy => by have := HI.out.lt; simp at hy; simp; omega)⟩
set_option maxHeartbeats 1600000 in
theorem rc_2_k1 (w : World) (B sb : Nat) (A : Option Addr) (n c : Nat) (zs : List Nat) (h : RdS w B sb A n c zs) (ho : zs.getD 0 0 = 2) (hn1 : 1 ≤ n) (hn0 : 1 ≤ n - 1) (hn : n - 1 < 2) : Calls Try.prog 98 #[.pointer (some ⟨sb, 0, none⟩)] w (FellO w [sb]) := by
  have hob : 2 < 256 := by have := h.arg.lt 0; omega
  have e0 : IntKind.u8.wrap (2 : Int) = (2 : Int) := IntWalk.u8_in _ (by omega)
  have HN : Hid (Calls Try.prog 123 #[.pointer (some ⟨sb, 0, none⟩), .int .i64 1] (zW w) (NumS (zW w) B sb 1 n 2 zs)) := Lib.hid (num1 (zW w) B sb 2 A n c zs (h.below ((Below.refl _ _).alloc (Nat.le_refl _) _)) ho (by omega))
  have HLT := Lib.hid h.blk.lt
  clear h ho
  go_enter Try.func98, Try.ntmps98
  go_wp2_with fail
  with_reducible refine (HN.out).mono ?_
  rintro e w1 ⟨A1, c1, rfl, hs1, hf1⟩
  have HI0 : RcI w (w1.alloc (.cells #[.int .u8 2, .int .i64 0, .slice none 0 0, .int .i64 0] 71)) B sb w1.heap.size 2 (n - 1) A1 c1 (zs.drop 1) := RcI.make 2 HLT.out hs1 hf1
  have HI := Lib.hid HI0
  clear hs1 hf1 HN
  have k0 := HI0.k.cell 0 _ rfl
  have k1 := HI0.k.cell 1 _ rfl
  have k2 := HI0.k.cell 2 _ rfl
  have k3 := HI0.k.cell 3 _ rfl
  have hne : w1.heap.size ≠ sb := by have := HI0.lt; omega
  have hBc : B ≤ w1.heap.size := by have := HI0.lt; have := HI0.s.le; omega
  have lk := HI0.k.lt
  clear HI0
  have HX : Hid (Calls Try.prog 126 #[.pointer (some ⟨sb, 0, none⟩), .pointer (some ⟨w1.heap.size, 0, none⟩)] (w1.alloc (.cells #[.int .u8 2, .int .i64 0, .slice none 0 0, .int .i64 0] 71)) (FellO (w1.alloc (.cells #[.int .u8 2, .int .i64 0, .slice none 0 0, .int .i64 0] 71)) [sb, w1.heap.size])) := Lib.hid (key_no1 _ B sb w1.heap.size 2 _ _ _ _ HI.out.s HI.out.k hne hBc hn0 hn)
  go_wp2_with fail
  with_reducible refine (HX.out).mono ?_
  rintro e w3 ⟨rfl, hf3⟩
  exact ⟨rfl, rfl, HI.out.f.new hf3 (fun y hy => by have := HI.out.lt; simp at hy; simp; omega)⟩
set_option maxHeartbeats 1600000 in
theorem rc_2_k2 (w : World) (B sb : Nat) (A : Option Addr) (n c : Nat) (zs : List Nat) (h : RdS w B sb A n c zs) (ho : zs.getD 0 0 = 2) (hn1 : 1 ≤ n) (hn0 : 2 ≤ n - 1) (hn : n - 1 < 2 + (zs.drop 1).getD 1 0) : Calls Try.prog 98 #[.pointer (some ⟨sb, 0, none⟩)] w (FellO w [sb]) := by
  have hob : 2 < 256 := by have := h.arg.lt 0; omega
  have e0 : IntKind.u8.wrap (2 : Int) = (2 : Int) := IntWalk.u8_in _ (by omega)
  have HN : Hid (Calls Try.prog 123 #[.pointer (some ⟨sb, 0, none⟩), .int .i64 1] (zW w) (NumS (zW w) B sb 1 n 2 zs)) := Lib.hid (num1 (zW w) B sb 2 A n c zs (h.below ((Below.refl _ _).alloc (Nat.le_refl _) _)) ho (by omega))
  have HLT := Lib.hid h.blk.lt
  clear h ho
  go_enter Try.func98, Try.ntmps98
  go_wp2_with fail
  with_reducible refine (HN.out).mono ?_
  rintro e w1 ⟨A1, c1, rfl, hs1, hf1⟩
  have HI0 : RcI w (w1.alloc (.cells #[.int .u8 2, .int .i64 0, .slice none 0 0, .int .i64 0] 71)) B sb w1.heap.size 2 (n - 1) A1 c1 (zs.drop 1) := RcI.make 2 HLT.out hs1 hf1
  have HI := Lib.hid HI0
  clear hs1 hf1 HN
  have k0 := HI0.k.cell 0 _ rfl
  have k1 := HI0.k.cell 1 _ rfl
  have k2 := HI0.k.cell 2 _ rfl
  have k3 := HI0.k.cell 3 _ rfl
  have hne : w1.heap.size ≠ sb := by have := HI0.lt; omega
  have hBc : B ≤ w1.heap.size := by have := HI0.lt; have := HI0.s.le; omega
  have lk := HI0.k.lt
  clear HI0
  have HX : Hid (Calls Try.prog 126 #[.pointer (some ⟨sb, 0, none⟩), .pointer (some ⟨w1.heap.size, 0, none⟩)] (w1.alloc (.cells #[.int .u8 2, .int .i64 0, .slice none 0 0, .int .i64 0] 71)) (FellO (w1.alloc (.cells #[.int .u8 2, .int .i64 0, .slice none 0 0, .int .i64 0] 71)) [sb, w1.heap.size])) := Lib.hid (key_no2 _ B sb w1.heap.size 2 _ _ _ _ HI.out.s HI.out.k hne hBc hn0 hn)
  go_wp2_with fail
  with_reducible refine (HX.out).mono ?_
  rintro e w3 ⟨rfl, hf3⟩
  exact ⟨rfl, rfl, HI.out.f.new hf3 (fun y hy => by have := HI.out.lt; simp at hy; simp; omega)⟩
set_option maxHeartbeats 1600000 in
theorem rc_4_k0 (w : World) (B sb : Nat) (A : Option Addr) (n c : Nat) (zs : List Nat) (h : RdS w B sb A n c zs) (ho : zs.getD 0 0 = 4) (hn1 : 1 ≤ n) (hn : n - 1 < 1) : Calls Try.prog 98 #[.pointer (some ⟨sb, 0, none⟩)] w (FellO w [sb]) := by
  have hob : 4 < 256 := by have := h.arg.lt 0; omega
  have e0 : IntKind.u8.wrap (4 : Int) = (4 : Int) := IntWalk.u8_in _ (by omega)
  have HN : Hid (Calls Try.prog 123 #[.pointer (some ⟨sb, 0, none⟩), .int .i64 1] (zW w) (NumS (zW w) B sb 1 n 4 zs)) := Lib.hid (num1 (zW w) B sb 4 A n c zs (h.below ((Below.refl _ _).alloc (Nat.le_refl _) _)) ho (by omega))
  have HLT := Lib.hid h.blk.lt
  clear h ho
  go_enter Try.func98, Try.ntmps98
  go_wp2_with fail
  with_reducible refine (HN.out).mono ?_
  rintro e w1 ⟨A1, c1, rfl, hs1, hf1⟩
  have HI0 : RcI w (w1.alloc (.cells #[.int .u8 4, .int .i64 0, .slice none 0 0, .int .i64 0] 71)) B sb w1.heap.size 4 (n - 1) A1 c1 (zs.drop 1) := RcI.make 4 HLT.out hs1 hf1
  have HI := Lib.hid HI0
  clear hs1 hf1 HN
  have k0 := HI0.k.cell 0 _ rfl
  have k1 := HI0.k.cell 1 _ rfl
  have k2 := HI0.k.cell 2 _ rfl
  have k3 := HI0.k.cell 3 _ rfl
  have hne : w1.heap.size ≠ sb := by have := HI0.lt; omega
  have hBc : B ≤ w1.heap.size := by have := HI0.lt; have := HI0.s.le; omega
  have lk := HI0.k.lt
  clear HI0
  have HX : Hid (Calls Try.prog 126 #[.pointer (some ⟨sb, 0, none⟩), .pointer (some ⟨w1.heap.size, 0, none⟩)] (w1.alloc (.cells #[.int .u8 4, .int .i64 0, .slice none 0 0, .int .i64 0] 71)) (FellO (w1.alloc (.cells #[.int .u8 4, .int .i64 0, .slice none 0 0, .int .i64 0] 71)) [sb, w1.heap.size])) := Lib.hid (key_no0 _ B sb w1.heap.size 4 _ _ _ _ HI.out.s HI.out.k hne hBc hn)
  go_wp2_with fail
  with_reducible refine (HX.out).mono ?_
  rintro e w3 ⟨rfl, hf3⟩
  exact ⟨rfl, rfl, HI.out.f.new hf3 (fun y hy => by have := HI.out.lt; simp at hy; simp; omega)⟩
set_option maxHeartbeats 1600000 in
theorem rc_4_k1 (w : World) (B sb : Nat) (A : Option Addr) (n c : Nat) (zs : List Nat) (h : RdS w B sb A n c zs) (ho : zs.getD 0 0 = 4) (hn1 : 1 ≤ n) (hn0 : 1 ≤ n - 1) (hn : n - 1 < 2) : Calls Try.prog 98 #[.pointer (some ⟨sb, 0, none⟩)] w (FellO w [sb]) := by
  have hob : 4 < 256 := by have := h.arg.lt 0; omega
  have e0 : IntKind.u8.wrap (4 : Int) = (4 : Int) := IntWalk.u8_in _ (by omega)
  have HN : Hid (Calls Try.prog 123 #[.pointer (some ⟨sb, 0, none⟩), .int .i64 1] (zW w) (NumS (zW w) B sb 1 n 4 zs)) := Lib.hid (num1 (zW w) B sb 4 A n c zs (h.below ((Below.refl _ _).alloc (Nat.le_refl _) _)) ho (by omega))
  have HLT := Lib.hid h.blk.lt
  clear h ho
  go_enter Try.func98, Try.ntmps98
  go_wp2_with fail
  with_reducible refine (HN.out).mono ?_
  rintro e w1 ⟨A1, c1, rfl, hs1, hf1⟩
  have HI0 : RcI w (w1.alloc (.cells #[.int .u8 4, .int .i64 0, .slice none 0 0, .int .i64 0] 71)) B sb w1.heap.size 4 (n - 1) A1 c1 (zs.drop 1) := RcI.make 4 HLT.out hs1 hf1
  have HI := Lib.hid HI0
  clear hs1 hf1 HN
  have k0 := HI0.k.cell 0 _ rfl
  have k1 := HI0.k.cell 1 _ rfl
  have k2 := HI0.k.cell 2 _ rfl
  have k3 := HI0.k.cell 3 _ rfl
  have hne : w1.heap.size ≠ sb := by have := HI0.lt; omega
  have hBc : B ≤ w1.heap.size := by have := HI0.lt; have := HI0.s.le; omega
  have lk := HI0.k.lt
  clear HI0
  have HX : Hid (Calls Try.prog 126 #[.pointer (some ⟨sb, 0, none⟩), .pointer (some ⟨w1.heap.size, 0, none⟩)] (w1.alloc (.cells #[.int .u8 4, .int .i64 0, .slice none 0 0, .int .i64 0] 71)) (FellO (w1.alloc (.cells #[.int .u8 4, .int .i64 0, .slice none 0 0, .int .i64 0] 71)) [sb, w1.heap.size])) := Lib.hid (key_no1 _ B sb w1.heap.size 4 _ _ _ _ HI.out.s HI.out.k hne hBc hn0 hn)
  go_wp2_with fail
  with_reducible refine (HX.out).mono ?_
  rintro e w3 ⟨rfl, hf3⟩
  exact ⟨rfl, rfl, HI.out.f.new hf3 (fun y hy => by have := HI.out.lt; simp at hy; simp; omega)⟩
set_option maxHeartbeats 1600000 in
theorem rc_4_k2 (w : World) (B sb : Nat) (A : Option Addr) (n c : Nat) (zs : List Nat) (h : RdS w B sb A n c zs) (ho : zs.getD 0 0 = 4) (hn1 : 1 ≤ n) (hn0 : 2 ≤ n - 1) (hn : n - 1 < 2 + (zs.drop 1).getD 1 0) : Calls Try.prog 98 #[.pointer (some ⟨sb, 0, none⟩)] w (FellO w [sb]) := by
  have hob : 4 < 256 := by have := h.arg.lt 0; omega
  have e0 : IntKind.u8.wrap (4 : Int) = (4 : Int) := IntWalk.u8_in _ (by omega)
  have HN : Hid (Calls Try.prog 123 #[.pointer (some ⟨sb, 0, none⟩), .int .i64 1] (zW w) (NumS (zW w) B sb 1 n 4 zs)) := Lib.hid (num1 (zW w) B sb 4 A n c zs (h.below ((Below.refl _ _).alloc (Nat.le_refl _) _)) ho (by omega))
  have HLT := Lib.hid h.blk.lt
  clear h ho
  go_enter Try.func98, Try.ntmps98
  go_wp2_with fail
  with_reducible refine (HN.out).mono ?_
  rintro e w1 ⟨A1, c1, rfl, hs1, hf1⟩
  have HI0 : RcI w (w1.alloc (.cells #[.int .u8 4, .int .i64 0, .slice none 0 0, .int .i64 0] 71)) B sb w1.heap.size 4 (n - 1) A1 c1 (zs.drop 1) := RcI.make 4 HLT.out hs1 hf1
  have HI := Lib.hid HI0
  clear hs1 hf1 HN
  have k0 := HI0.k.cell 0 _ rfl
  have k1 := HI0.k.cell 1 _ rfl
  have k2 := HI0.k.cell 2 _ rfl
  have k3 := HI0.k.cell 3 _ rfl
  have hne : w1.heap.size ≠ sb := by have := HI0.lt; omega
  have hBc : B ≤ w1.heap.size := by have := HI0.lt; have := HI0.s.le; omega
  have lk := HI0.k.lt
  clear HI0
  have HX : Hid (Calls Try.prog 126 #[.pointer (some ⟨sb, 0, none⟩), .pointer (some ⟨w1.heap.size, 0, none⟩)] (w1.alloc (.cells #[.int .u8 4, .int .i64 0, .slice none 0 0, .int .i64 0] 71)) (FellO (w1.alloc (.cells #[.int .u8 4, .int .i64 0, .slice none 0 0, .int .i64 0] 71)) [sb, w1.heap.size])) := Lib.hid (key_no2 _ B sb w1.heap.size 4 _ _ _ _ HI.out.s HI.out.k hne hBc hn0 hn)
  go_wp2_with fail
  with_reducible refine (HX.out).mono ?_
  rintro e w3 ⟨rfl, hf3⟩
  exact ⟨rfl, rfl, HI.out.f.new hf3 (fun y hy => by have := HI.out.lt; simp at hy; simp; omega)⟩
def rc_x2 (zs : List Nat) : ClV := ⟨2, ((zs.drop 1).getD 0 0 : Nat), 0, ((zs.drop 1).drop 2).take ((zs.drop 1).getD 1 0)⟩
def rc_x4 (zs : List Nat) : ClV := ⟨4, ((zs.drop 1).getD 0 0 : Nat), 0, ((zs.drop 1).drop 2).take ((zs.drop 1).getD 1 0)⟩
def rc_x1 (zs : List Nat) : ClV := ⟨1, ((zs.drop 1).getD 0 0 : Nat), IntKind.i64.wrap (Tk.numV (((zs.drop 1).drop (2 + (zs.drop 1).getD 1 0)).take 8) : Nat), ((zs.drop 1).drop 2).take ((zs.drop 1).getD 1 0)⟩
set_option maxHeartbeats 1600000 in
theorem rc_2_ok (w : World) (B sb : Nat) (A : Option Addr) (n c : Nat) (zs : List Nat) (h : RdS w B sb A n c zs) (ho : zs.getD 0 0 = 2) (hn1 : 3 ≤ n) (hn : 2 + (zs.drop 1).getD 1 0 ≤ n - 1) : Calls Try.prog 98 #[.pointer (some ⟨sb, 0, none⟩)] w (CallE w sb ⟨2, ((zs.drop 1).getD 0 0 : Nat), 0, ((zs.drop 1).drop 2).take ((zs.drop 1).getD 1 0)⟩) := by
  have hob : 2 < 256 := by have := h.arg.lt 0; omega
  have e0 : IntKind.u8.wrap (2 : Int) = (2 : Int) := IntWalk.u8_in _ (by omega)
  have HN : Hid (Calls Try.prog 123 #[.pointer (some ⟨sb, 0, none⟩), .int .i64 1] (zW w) (NumS (zW w) B sb 1 n 2 zs)) := Lib.hid (num1 (zW w) B sb 2 A n c zs (h.below ((Below.refl _ _).alloc (Nat.le_refl _) _)) ho (by omega))
  have HLT := Lib.hid h.blk.lt
  have HL := Lib.hid (And.intro h.arg.len hn)
  have HR : Hid (rc_x2 zs = ⟨2, ((zs.drop 1).getD 0 0 : Nat), 0, ((zs.drop 1).drop 2).take ((zs.drop 1).getD 1 0)⟩) := Lib.hid rfl
  rw [← HR.out]
  clear h ho
  go_enter Try.func98, Try.ntmps98
  go_wp2_with fail
  with_reducible refine (HN.out).mono ?_
  rintro e w1 ⟨A1, c1, rfl, hs1, hf1⟩
  have HI0 : RcI w (w1.alloc (.cells #[.int .u8 2, .int .i64 0, .slice none 0 0, .int .i64 0] 71)) B sb w1.heap.size 2 (n - 1) A1 c1 (zs.drop 1) := RcI.make 2 HLT.out hs1 hf1
  have HI := Lib.hid HI0
  clear hs1 hf1 HN
  have k0 := HI0.k.cell 0 _ rfl
  have k1 := HI0.k.cell 1 _ rfl
  have k2 := HI0.k.cell 2 _ rfl
  have k3 := HI0.k.cell 3 _ rfl
  have hne : w1.heap.size ≠ sb := by have := HI0.lt; omega
  have hBc : B ≤ w1.heap.size := by have := HI0.lt; have := HI0.s.le; omega
  have lk := HI0.k.lt
  clear HI0
  have HX : Hid (Calls Try.prog 126 #[.pointer (some ⟨sb, 0, none⟩), .pointer (some ⟨w1.heap.size, 0, none⟩)] (w1.alloc (.cells #[.int .u8 2, .int .i64 0, .slice none 0 0, .int .i64 0] 71)) (KeyE (w1.alloc (.cells #[.int .u8 2, .int .i64 0, .slice none 0 0, .int .i64 0] 71)) B sb w1.heap.size (n - 1) 2 (zs.drop 1))) := Lib.hid (key_ok _ B sb w1.heap.size 2 _ _ _ _ HI.out.s HI.out.k hne hBc (by omega) (by omega))
  go_wp2_with fail
  with_reducible refine (HX.out).mono ?_
  rintro e w3 ⟨KA, kc, A3, c3, rfl, k3q, s3', ko, hf3⟩
  have k3' : BlkL w3 w1.heap.size [.int .u8 2, .int .i64 ((zs.drop 1).getD 0 0 : Nat), .slice KA ((zs.drop 1).getD 1 0) kc, .int .i64 0] := k3q
  have hlt := HI.out.lt
  have htop := HI.out.top
  have r3 := HI.out.r.off hf3 (by simp; omega)
  have F3 := Lib.hid (HI.out.f.new hf3 (fun y hy => by simp at hy; simp; omega))
  have hkb : ∀ y ∈ bkV KA, w1.heap.size < y := fun y hy => by have := (ko.lt y hy).1; omega
  have KO := Lib.hid (ko.mono (B' := w.heap.size) (by omega))
  have R3 := Lib.hid r3
  have K3 := Lib.hid k3'
  have S3 := Lib.hid s3'
  have HKB := Lib.hid hkb
  have lr := r3.lt
  have t0 := k3'.cell 0 _ rfl
  have u0 := k3'.froz 0 (by simp)
  have g0 := r3.froz 0 (by simp)
  have v0 := r3.cell 0 _ rfl
  have t1 := k3'.cell 1 _ rfl
  have u1 := k3'.froz 1 (by simp)
  have g1 := r3.froz 1 (by simp)
  have v1 := r3.cell 1 _ rfl
  have t2 := k3'.cell 2 _ rfl
  have u2 := k3'.froz 2 (by simp)
  have g2 := r3.froz 2 (by simp)
  have v2 := r3.cell 2 _ rfl
  have t3 := k3'.cell 3 _ rfl
  have u3 := k3'.froz 3 (by simp)
  have g3 := r3.froz 3 (by simp)
  have v3 := r3.cell 3 _ rfl
  have lk3 := k3'.lt
  clear k0 k1 k2 k3 k3' k3q s3' ko hf3 r3 HX
  obtain ⟨m, hm⟩ : ∃ m, (zs.drop 1).getD 1 0 = m := ⟨_, rfl⟩
  obtain ⟨z, hz⟩ : ∃ m, (zs.drop 1).getD 0 0 = m := ⟨_, rfl⟩
  rw [hm] at KO K3 S3 t2 HL HR
  rw [hz] at K3 t1 HR
  clear hm hz
  have HKL : Hid ((((zs.drop 1).drop 2).take m).length = m) := Lib.hid (by have := HL.out.1; have := HL.out.2; simp; omega)
  go_wp2
  exact rc_fin _ ⟨2, (z : Nat), 0, ((zs.drop 1).drop 2).take m⟩ HR.out HKL.out _ R3.out rfl KO.out (fun hy => by have := HKB.out _ hy; omega) F3.out
set_option maxHeartbeats 1600000 in
theorem rc_4_ok (w : World) (B sb : Nat) (A : Option Addr) (n c : Nat) (zs : List Nat) (h : RdS w B sb A n c zs) (ho : zs.getD 0 0 = 4) (hn1 : 3 ≤ n) (hn : 2 + (zs.drop 1).getD 1 0 ≤ n - 1) : Calls Try.prog 98 #[.pointer (some ⟨sb, 0, none⟩)] w (CallE w sb ⟨4, ((zs.drop 1).getD 0 0 : Nat), 0, ((zs.drop 1).drop 2).take ((zs.drop 1).getD 1 0)⟩) := by
  have hob : 4 < 256 := by have := h.arg.lt 0; omega
  have e0 : IntKind.u8.wrap (4 : Int) = (4 : Int) := IntWalk.u8_in _ (by omega)
  have HN : Hid (Calls Try.prog 123 #[.pointer (some ⟨sb, 0, none⟩), .int .i64 1] (zW w) (NumS (zW w) B sb 1 n 4 zs)) := Lib.hid (num1 (zW w) B sb 4 A n c zs (h.below ((Below.refl _ _).alloc (Nat.le_refl _) _)) ho (by omega))
  have HLT := Lib.hid h.blk.lt
  have HL := Lib.hid (And.intro h.arg.len hn)
  have HR : Hid (rc_x4 zs = ⟨4, ((zs.drop 1).getD 0 0 : Nat), 0, ((zs.drop 1).drop 2).take ((zs.drop 1).getD 1 0)⟩) := Lib.hid rfl
  rw [← HR.out]
  clear h ho
  go_enter Try.func98, Try.ntmps98
  go_wp2_with fail
  with_reducible refine (HN.out).mono ?_
  rintro e w1 ⟨A1, c1, rfl, hs1, hf1⟩
  have HI0 : RcI w (w1.alloc (.cells #[.int .u8 4, .int .i64 0, .slice none 0 0, .int .i64 0] 71)) B sb w1.heap.size 4 (n - 1) A1 c1 (zs.drop 1) := RcI.make 4 HLT.out hs1 hf1
  have HI := Lib.hid HI0
  clear hs1 hf1 HN
  have k0 := HI0.k.cell 0 _ rfl
  have k1 := HI0.k.cell 1 _ rfl
  have k2 := HI0.k.cell 2 _ rfl
  have k3 := HI0.k.cell 3 _ rfl
  have hne : w1.heap.size ≠ sb := by have := HI0.lt; omega
  have hBc : B ≤ w1.heap.size := by have := HI0.lt; have := HI0.s.le; omega
  have lk := HI0.k.lt
  clear HI0
  have HX : Hid (Calls Try.prog 126 #[.pointer (some ⟨sb, 0, none⟩), .pointer (some ⟨w1.heap.size, 0, none⟩)] (w1.alloc (.cells #[.int .u8 4, .int .i64 0, .slice none 0 0, .int .i64 0] 71)) (KeyE (w1.alloc (.cells #[.int .u8 4, .int .i64 0, .slice none 0 0, .int .i64 0] 71)) B sb w1.heap.size (n - 1) 4 (zs.drop 1))) := Lib.hid (key_ok _ B sb w1.heap.size 4 _ _ _ _ HI.out.s HI.out.k hne hBc (by omega) (by omega))
  go_wp2_with fail
  with_reducible refine (HX.out).mono ?_
  rintro e w3 ⟨KA, kc, A3, c3, rfl, k3q, s3', ko, hf3⟩
  have k3' : BlkL w3 w1.heap.size [.int .u8 4, .int .i64 ((zs.drop 1).getD 0 0 : Nat), .slice KA ((zs.drop 1).getD 1 0) kc, .int .i64 0] := k3q
  have hlt := HI.out.lt
  have htop := HI.out.top
  have r3 := HI.out.r.off hf3 (by simp; omega)
  have F3 := Lib.hid (HI.out.f.new hf3 (fun y hy => by simp at hy; simp; omega))
  have hkb : ∀ y ∈ bkV KA, w1.heap.size < y := fun y hy => by have := (ko.lt y hy).1; omega
  have KO := Lib.hid (ko.mono (B' := w.heap.size) (by omega))
  have R3 := Lib.hid r3
  have K3 := Lib.hid k3'
  have S3 := Lib.hid s3'
  have HKB := Lib.hid hkb
  have lr := r3.lt
  have t0 := k3'.cell 0 _ rfl
  have u0 := k3'.froz 0 (by simp)
  have g0 := r3.froz 0 (by simp)
  have v0 := r3.cell 0 _ rfl
  have t1 := k3'.cell 1 _ rfl
  have u1 := k3'.froz 1 (by simp)
  have g1 := r3.froz 1 (by simp)
  have v1 := r3.cell 1 _ rfl
  have t2 := k3'.cell 2 _ rfl
  have u2 := k3'.froz 2 (by simp)
  have g2 := r3.froz 2 (by simp)
  have v2 := r3.cell 2 _ rfl
  have t3 := k3'.cell 3 _ rfl
  have u3 := k3'.froz 3 (by simp)
  have g3 := r3.froz 3 (by simp)
  have v3 := r3.cell 3 _ rfl
  have lk3 := k3'.lt
  clear k0 k1 k2 k3 k3' k3q s3' ko hf3 r3 HX
  obtain ⟨m, hm⟩ : ∃ m, (zs.drop 1).getD 1 0 = m := ⟨_, rfl⟩
  obtain ⟨z, hz⟩ : ∃ m, (zs.drop 1).getD 0 0 = m := ⟨_, rfl⟩
  rw [hm] at KO K3 S3 t2 HL HR
  rw [hz] at K3 t1 HR
  clear hm hz
  have HKL : Hid ((((zs.drop 1).drop 2).take m).length = m) := Lib.hid (by have := HL.out.1; have := HL.out.2; simp; omega)
  go_wp2
  exact rc_fin _ ⟨4, (z : Nat), 0, ((zs.drop 1).drop 2).take m⟩ HR.out HKL.out _ R3.out rfl KO.out (fun hy => by have := HKB.out _ hy; omega) F3.out
set_option maxHeartbeats 1600000 in
theorem rc_1_n (w : World) (B sb : Nat) (A : Option Addr) (n c : Nat) (zs : List Nat) (h : RdS w B sb A n c zs) (ho : zs.getD 0 0 = 1) (hn1 : 3 ≤ n) (hn : 2 + (zs.drop 1).getD 1 0 ≤ n - 1) (hn2 : n - 1 < 2 + (zs.drop 1).getD 1 0 + 8) : Calls Try.prog 98 #[.pointer (some ⟨sb, 0, none⟩)] w (FellO w [sb]) := by
  have hob : 1 < 256 := by have := h.arg.lt 0; omega
  have e0 : IntKind.u8.wrap (1 : Int) = (1 : Int) := IntWalk.u8_in _ (by omega)
  have HN : Hid (Calls Try.prog 123 #[.pointer (some ⟨sb, 0, none⟩), .int .i64 1] (zW w) (NumS (zW w) B sb 1 n 1 zs)) := Lib.hid (num1 (zW w) B sb 1 A n c zs (h.below ((Below.refl _ _).alloc (Nat.le_refl _) _)) ho (by omega))
  have HLT := Lib.hid h.blk.lt
  have HL := Lib.hid (And.intro h.arg.len hn)
  have HR : Hid (rc_x1 zs = ⟨1, ((zs.drop 1).getD 0 0 : Nat), IntKind.i64.wrap (Tk.numV (((zs.drop 1).drop (2 + (zs.drop 1).getD 1 0)).take 8) : Nat), ((zs.drop 1).drop 2).take ((zs.drop 1).getD 1 0)⟩) := Lib.hid rfl
  clear h ho
  go_enter Try.func98, Try.ntmps98
  go_wp2_with fail
  with_reducible refine (HN.out).mono ?_
  rintro e w1 ⟨A1, c1, rfl, hs1, hf1⟩
  have HI0 : RcI w (w1.alloc (.cells #[.int .u8 1, .int .i64 0, .slice none 0 0, .int .i64 0] 71)) B sb w1.heap.size 1 (n - 1) A1 c1 (zs.drop 1) := RcI.make 1 HLT.out hs1 hf1
  have HI := Lib.hid HI0
  clear hs1 hf1 HN
  have k0 := HI0.k.cell 0 _ rfl
  have k1 := HI0.k.cell 1 _ rfl
  have k2 := HI0.k.cell 2 _ rfl
  have k3 := HI0.k.cell 3 _ rfl
  have hne : w1.heap.size ≠ sb := by have := HI0.lt; omega
  have hBc : B ≤ w1.heap.size := by have := HI0.lt; have := HI0.s.le; omega
  have lk := HI0.k.lt
  clear HI0
  have HX : Hid (Calls Try.prog 126 #[.pointer (some ⟨sb, 0, none⟩), .pointer (some ⟨w1.heap.size, 0, none⟩)] (w1.alloc (.cells #[.int .u8 1, .int .i64 0, .slice none 0 0, .int .i64 0] 71)) (KeyE (w1.alloc (.cells #[.int .u8 1, .int .i64 0, .slice none 0 0, .int .i64 0] 71)) B sb w1.heap.size (n - 1) 1 (zs.drop 1))) := Lib.hid (key_ok _ B sb w1.heap.size 1 _ _ _ _ HI.out.s HI.out.k hne hBc (by omega) (by omega))
  go_wp2_with fail
  with_reducible refine (HX.out).mono ?_
  rintro e w3 ⟨KA, kc, A3, c3, rfl, k3q, s3', ko, hf3⟩
  have k3' : BlkL w3 w1.heap.size [.int .u8 1, .int .i64 ((zs.drop 1).getD 0 0 : Nat), .slice KA ((zs.drop 1).getD 1 0) kc, .int .i64 0] := k3q
  have hlt := HI.out.lt
  have htop := HI.out.top
  have r3 := HI.out.r.off hf3 (by simp; omega)
  have F3 := Lib.hid (HI.out.f.new hf3 (fun y hy => by simp at hy; simp; omega))
  have hkb : ∀ y ∈ bkV KA, w1.heap.size < y := fun y hy => by have := (ko.lt y hy).1; omega
  have KO := Lib.hid (ko.mono (B' := w.heap.size) (by omega))
  have R3 := Lib.hid r3
  have K3 := Lib.hid k3'
  have S3 := Lib.hid s3'
  have HKB := Lib.hid hkb
  have lr := r3.lt
  have t0 := k3'.cell 0 _ rfl
  have u0 := k3'.froz 0 (by simp)
  have g0 := r3.froz 0 (by simp)
  have v0 := r3.cell 0 _ rfl
  have t1 := k3'.cell 1 _ rfl
  have u1 := k3'.froz 1 (by simp)
  have g1 := r3.froz 1 (by simp)
  have v1 := r3.cell 1 _ rfl
  have t2 := k3'.cell 2 _ rfl
  have u2 := k3'.froz 2 (by simp)
  have g2 := r3.froz 2 (by simp)
  have v2 := r3.cell 2 _ rfl
  have t3 := k3'.cell 3 _ rfl
  have u3 := k3'.froz 3 (by simp)
  have g3 := r3.froz 3 (by simp)
  have v3 := r3.cell 3 _ rfl
  have lk3 := k3'.lt
  clear k0 k1 k2 k3 k3' k3q s3' ko hf3 r3 HX
  obtain ⟨m, hm⟩ : ∃ m, (zs.drop 1).getD 1 0 = m := ⟨_, rfl⟩
  obtain ⟨z, hz⟩ : ∃ m, (zs.drop 1).getD 0 0 = m := ⟨_, rfl⟩
  rw [hm] at KO K3 S3 t2 HL HR hn hn2
  rw [hz] at K3 t1 HR
  clear hm hz
  have HKL : Hid ((((zs.drop 1).drop 2).take m).length = m) := Lib.hid (by have := HL.out.1; have := HL.out.2; simp; omega)
  have HY := Lib.hid (num8_no _ _ _ _ _ _ _ S3.out (by omega))
  go_wp2_with fail
  with_reducible refine (HY.out).mono ?_
  rintro e w' ⟨rfl, rfl⟩
  exact ⟨rfl, rfl, F3.out⟩
set_option maxHeartbeats 1600000 in
theorem rc_1_ok (w : World) (B sb : Nat) (A : Option Addr) (n c : Nat) (zs : List Nat) (h : RdS w B sb A n c zs) (ho : zs.getD 0 0 = 1) (hn1 : 3 ≤ n) (hn : 2 + (zs.drop 1).getD 1 0 ≤ n - 1) (hn2 : 2 + (zs.drop 1).getD 1 0 + 8 ≤ n - 1) : Calls Try.prog 98 #[.pointer (some ⟨sb, 0, none⟩)] w (CallE w sb (rc_x1 zs)) := by
  have hob : 1 < 256 := by have := h.arg.lt 0; omega
  have e0 : IntKind.u8.wrap (1 : Int) = (1 : Int) := IntWalk.u8_in _ (by omega)
  have HN : Hid (Calls Try.prog 123 #[.pointer (some ⟨sb, 0, none⟩), .int .i64 1] (zW w) (NumS (zW w) B sb 1 n 1 zs)) := Lib.hid (num1 (zW w) B sb 1 A n c zs (h.below ((Below.refl _ _).alloc (Nat.le_refl _) _)) ho (by omega))
  have HLT := Lib.hid h.blk.lt
  have HL := Lib.hid (And.intro h.arg.len hn)
  have HR : Hid (rc_x1 zs = ⟨1, ((zs.drop 1).getD 0 0 : Nat), IntKind.i64.wrap (Tk.numV (((zs.drop 1).drop (2 + (zs.drop 1).getD 1 0)).take 8) : Nat), ((zs.drop 1).drop 2).take ((zs.drop 1).getD 1 0)⟩) := Lib.hid rfl
  clear h ho
  go_enter Try.func98, Try.ntmps98
  go_wp2_with fail
  with_reducible refine (HN.out).mono ?_
  rintro e w1 ⟨A1, c1, rfl, hs1, hf1⟩
  have HI0 : RcI w (w1.alloc (.cells #[.int .u8 1, .int .i64 0, .slice none 0 0, .int .i64 0] 71)) B sb w1.heap.size 1 (n - 1) A1 c1 (zs.drop 1) := RcI.make 1 HLT.out hs1 hf1
  have HI := Lib.hid HI0
  clear hs1 hf1 HN
  have k0 := HI0.k.cell 0 _ rfl
  have k1 := HI0.k.cell 1 _ rfl
  have k2 := HI0.k.cell 2 _ rfl
  have k3 := HI0.k.cell 3 _ rfl
  have hne : w1.heap.size ≠ sb := by have := HI0.lt; omega
  have hBc : B ≤ w1.heap.size := by have := HI0.lt; have := HI0.s.le; omega
  have lk := HI0.k.lt
  clear HI0
  have HX : Hid (Calls Try.prog 126 #[.pointer (some ⟨sb, 0, none⟩), .pointer (some ⟨w1.heap.size, 0, none⟩)] (w1.alloc (.cells #[.int .u8 1, .int .i64 0, .slice none 0 0, .int .i64 0] 71)) (KeyE (w1.alloc (.cells #[.int .u8 1, .int .i64 0, .slice none 0 0, .int .i64 0] 71)) B sb w1.heap.size (n - 1) 1 (zs.drop 1))) := Lib.hid (key_ok _ B sb w1.heap.size 1 _ _ _ _ HI.out.s HI.out.k hne hBc (by omega) (by omega))
  go_wp2_with fail
  with_reducible refine (HX.out).mono ?_
  rintro e w3 ⟨KA, kc, A3, c3, rfl, k3q, s3', ko, hf3⟩
  have k3' : BlkL w3 w1.heap.size [.int .u8 1, .int .i64 ((zs.drop 1).getD 0 0 : Nat), .slice KA ((zs.drop 1).getD 1 0) kc, .int .i64 0] := k3q
  have hlt := HI.out.lt
  have htop := HI.out.top
  have r3 := HI.out.r.off hf3 (by simp; omega)
  have F3 := Lib.hid (HI.out.f.new hf3 (fun y hy => by simp at hy; simp; omega))
  have hkb : ∀ y ∈ bkV KA, w1.heap.size < y := fun y hy => by have := (ko.lt y hy).1; omega
  have KO := Lib.hid (ko.mono (B' := w.heap.size) (by omega))
  have R3 := Lib.hid r3
  have K3 := Lib.hid k3'
  have S3 := Lib.hid s3'
  have HKB := Lib.hid hkb
  have lr := r3.lt
  have t0 := k3'.cell 0 _ rfl
  have u0 := k3'.froz 0 (by simp)
  have g0 := r3.froz 0 (by simp)
  have v0 := r3.cell 0 _ rfl
  have t1 := k3'.cell 1 _ rfl
  have u1 := k3'.froz 1 (by simp)
  have g1 := r3.froz 1 (by simp)
  have v1 := r3.cell 1 _ rfl
  have t2 := k3'.cell 2 _ rfl
  have u2 := k3'.froz 2 (by simp)
  have g2 := r3.froz 2 (by simp)
  have v2 := r3.cell 2 _ rfl
  have t3 := k3'.cell 3 _ rfl
  have u3 := k3'.froz 3 (by simp)
  have g3 := r3.froz 3 (by simp)
  have v3 := r3.cell 3 _ rfl
  have lk3 := k3'.lt
  clear k0 k1 k2 k3 k3' k3q s3' ko hf3 r3 HX
  obtain ⟨m, hm⟩ : ∃ m, (zs.drop 1).getD 1 0 = m := ⟨_, rfl⟩
  obtain ⟨z, hz⟩ : ∃ m, (zs.drop 1).getD 0 0 = m := ⟨_, rfl⟩
  rw [hm] at KO K3 S3 t2 HL HR hn hn2
  rw [hz] at K3 t1 HR
  clear hm hz
  have HKL : Hid ((((zs.drop 1).drop 2).take m).length = m) := Lib.hid (by have := HL.out.1; have := HL.out.2; simp; omega)
  obtain ⟨q, hq⟩ : ∃ r, Tk.numV (((zs.drop 1).drop (2 + m)).take 8) = r := ⟨_, rfl⟩
  obtain ⟨y, hy⟩ : ∃ y, IntKind.i64.wrap (q : Int) = y := ⟨_, rfl⟩
  have hw : wrap64 (q : Int) = y := by rw [← hy]; simp [IntKind.wrap_i64, wrap64]
  rw [hq, hy] at HR
  have HY := Lib.hid (num8 _ _ _ q _ _ _ _ S3.out hq (by omega))
  clear hq
  go_wp2_with fail
  with_reducible refine (HY.out).mono ?_
  rintro e w4 ⟨A4, c4, rfl, hs4, hf4⟩
  have k4 := K3.out.off hf4 (by simpa using hne)
  have r4 := R3.out.off hf4 (by simp; omega)
  have f4 := F3.out.trans hf4
  have o4 := KO.out.off hf4 (fun y hy => by have := HKB.out _ hy; simp; omega)
  have of5 : Off [w1.heap.size] w4 (w4.setCell ⟨w1.heap.size, 3, none⟩ (.int .i64 y)) := (Off.refl _ _).setCell (p := ⟨w1.heap.size, 3, none⟩) (by simp) _
  have R5 := Lib.hid (r4.off of5 (by simp; omega))
  have O5 := Lib.hid (o4.off of5 (fun y hy => by have := HKB.out _ hy; simp; omega))
  have F5 := Lib.hid (f4.new of5 (fun y hy => by simp at hy; simp; omega))
  have k5 := k4.set 3 (.int .i64 y) (by simp)
  have a0 := k4.cell 0 _ rfl
  have b0 := k4.froz 0 (by simp)
  have d0 := r4.cell 0 _ rfl
  have e10 := r4.froz 0 (by simp)
  have a1 := k4.cell 1 _ rfl
  have b1 := k4.froz 1 (by simp)
  have d1 := r4.cell 1 _ rfl
  have e11 := r4.froz 1 (by simp)
  have a2 := k4.cell 2 _ rfl
  have b2 := k4.froz 2 (by simp)
  have d2 := r4.cell 2 _ rfl
  have e12 := r4.froz 2 (by simp)
  have a3 := k4.cell 3 _ rfl
  have b3 := k4.froz 3 (by simp)
  have d3 := r4.cell 3 _ rfl
  have e13 := r4.froz 3 (by simp)
  have l4 := k4.lt
  have l5 := r4.lt
  clear k4 r4 f4 o4 of5 k5 hs4 hf4 HY t0 t1 t2 t3 u0 u1 u2 u3 g0 g1 g2 g3 v0 v1 v2 v3
  go_wp2
  exact rc_fin _ ⟨1, (z : Nat), y, ((zs.drop 1).drop 2).take m⟩ HR.out HKL.out _ R5.out rfl O5.out (fun hy => by have := HKB.out _ hy; omega) F5.out
end Go.Proofs.Ytndgladfcogiiaa
