/- The deferred functions of begin: what they recover, in either order of their first region. -/
import Derived.Test.YtifldnkcheobhaaDoorCaB
import Derived.Defers
import Derived.Recover
import Derived.BigRegion
import Derived.Deep.RegionHeld3
import Derived.Deep.CutBlock
import Derived.Deep.DeepCutAuto
namespace Go.Proofs.YtifldnkcheobhaaDoor
open Go.RowKit
set_option maxRecDepth 100000
set_option linter.unusedVariables false
set_option maxHeartbeats 4000000

section
variable {P : Program} {Q : Exit → Act → List Frame → World → Prop} {a : Act} {cs : List Frame} {w : World}
theorem wpS_region_draw {id : Nat} {ops : Array Oper} (h : ∀ t, wpOpsS P ops Q (Region.schedule (P.follows .mixedOrders) ops t) a cs { w with drawn := w.drawn + 1 }) : (Code.region id ops true).wpS P Q a cs w :=
  fun b k hb hr => let ⟨e, a', cs', w', q, r⟩ := wp_opsS _ a cs _ (h _) b k hb hr; ⟨e, a', cs', w', q, .of_steps (.one step_region_draw) r⟩
end
theorem lin3 {ops : Array Oper} {o0 o1 o2 : Oper} (hs : ops = #[o0, o1, o2]) (h0 : o0.after = #[]) (h1 : o1.after = #[])
    (h2 : o2.after = #[{ on := 0, ground := .data }, { on := 1, ground := .data }, { on := 1, ground := .chain }]) (md : Region.Mode) (t : Nat) :
    Region.linearise md ops t = [0, 1, 2] ∨ Region.linearise md ops t = [1, 0, 2] := by
  subst hs
  rcases Nat.mod_two_eq_zero_or_one t with ht | ht
  · left
    simp [Region.linearise, Region.linearise.go, List.range, List.range.loop, h0, h1, h2, Region.binds, ht, Nat.mod_one]
  · right
    simp [Region.linearise, Region.linearise.go, List.range, List.range.loop, h0, h1, h2, Region.binds, ht, Nat.mod_one]
theorem sched3 {ops : Array Oper} {o0 o1 o2 : Oper} (hs : ops = #[o0, o1, o2]) (h0 : o0.after = #[]) (h1 : o1.after = #[])
    (h2 : o2.after = #[{ on := 0, ground := .data }, { on := 1, ground := .data }, { on := 1, ground := .chain }]) (mixed : Bool) (t : Nat) :
    Region.schedule mixed ops t = [0, 1, 2] ∨ Region.schedule mixed ops t = [1, 0, 2] := by
  unfold Region.schedule
  split <;> exact lin3 hs h0 h1 h2 _ _

theorem wpS_draw3 {P : Program} {Q : Exit → Act → List Frame → World → Prop} {a : Act} {cs : List Frame} {w : World} {id : Nat} {ops : Array Oper} {o0 o1 o2 : Oper} (hs : ops = #[o0, o1, o2]) (h0 : o0.after = #[]) (h1 : o1.after = #[])
    (h2 : o2.after = #[{ on := 0, ground := .data }, { on := 1, ground := .data }, { on := 1, ground := .chain }])
    (ha : wpOpsS P ops Q [0, 1, 2] a cs w.drew) (hb : wpOpsS P ops Q [1, 0, 2] a cs w.drew) : (Code.region id ops true).wpS P Q a cs w := by
  apply wpS_region_draw
  intro t
  rcases sched3 hs h0 h1 h2 (P.follows .mixedOrders) t with e | e <;> rw [e]
  · exact ha
  · exact hb

/-- What end leaves. -/
def endW (w : World) (rb : Nat) : Value → World
  | .iface T x => w.setCell ⟨rb, 1, none⟩ (.iface T x)
  | _ => w
inductive IfV : Value → Prop
  | nil : IfV .nilIface
  | some (T : TypeId) (x : Value) : IfV (.iface T x)
theorem BlkL.endW {w : World} {b rb : Nat} {xs : List Value} (h : BlkL w b xs) (hne : rb ≠ b) (v : Value) : BlkL (endW w rb v) b xs := by
  unfold Go.Proofs.YtifldnkcheobhaaDoor.endW
  split
  · exact h.other rb 1 _ hne
  · exact h
theorem end_any (w : World) (rb : Nat) (by0 old v : Value) (hv : IfV v) (h : BlkL w rb [by0, old]) :
    Calls Tryd.prog 46 #[.pointer (some ⟨rb, 0, none⟩), v] w fun e w' => e = .returned (.tuple #[]) ∧ w' = endW w rb v := by
  cases hv with
  | nil => refine (end_nil w rb).mono ?_; rintro e w' ⟨rfl, rfl⟩; exact ⟨rfl, rfl⟩
  | some T x => exact end_some w rb by0 old T x h
theorem begin1_ret (w : World) (p rb : Nat) (by0 old : Value) (h : BlkL w p [.pointer (some ⟨rb, 0, none⟩)]) (hr : BlkL w rb [by0, old]) :
    CallsD Tryd.prog 45 #[.pointer (some ⟨p, 0, none⟩)] (.returning) w fun e u' w' =>
      e = .returned (.tuple #[]) ∧ u' = .returning ∧ w' = endW w.drew rb (.nilIface) := by
  have h0 := h.drew.cell 0 _ rfl
  clear h
  refine callsD_of_wpS Tryd.func45 rfl fun c₀ cs hu => ?_
  have HE := end_any w.drew rb by0 old (.nilIface) (by constructor) hr.drew
  refine wpS_draw3 rfl rfl rfl rfl ?_ ?_
  all_goals
    simp [wpOpsS, go_sem, recoverD, hu, h0, Tryd.ntmps45]
    refine HE.mono ?_
    rintro e w' ⟨rfl, rfl⟩
    exact ⟨rfl, .returning, by cases c₀; simp_all, _, by simp [results, Tryd.results45], rfl, rfl, rfl⟩
theorem begin1_pan (w : World) (p rb : Nat) (by0 old : Value) (T : TypeId) (x : Value) (older : List PanicEntry) (h : BlkL w p [.pointer (some ⟨rb, 0, none⟩)]) (hr : BlkL w rb [by0, old]) :
    CallsD Tryd.prog 45 #[.pointer (some ⟨p, 0, none⟩)] (.panicking ({ v := .iface T x, recovered := false } :: older)) w fun e u' w' =>
      e = .returned (.tuple #[]) ∧ u' = .panicking ({ v := .iface T x, recovered := true } :: older) ∧ w' = endW w.drew rb (.iface T x) := by
  have h0 := h.drew.cell 0 _ rfl
  clear h
  refine callsD_of_wpS Tryd.func45 rfl fun c₀ cs hu => ?_
  have HE := end_any w.drew rb by0 old (.iface T x) (by constructor) hr.drew
  refine wpS_draw3 rfl rfl rfl rfl ?_ ?_
  all_goals
    simp [wpOpsS, go_sem, recoverD, hu, h0, Tryd.ntmps45]
    refine HE.mono ?_
    rintro e w' ⟨rfl, rfl⟩
    exact ⟨rfl, .panicking ({ v := .iface T x, recovered := true } :: older), by cases c₀; simp_all, _, by simp [results, Tryd.results45], rfl, rfl, rfl⟩
theorem begin2_ret (w : World) (p pm pa rb bm : Nat) (k i : Int) (by0 old : Value) (h : BlkL w p [.pointer (some ⟨rb, 0, none⟩)]) (hm : BlkL w pm [.pointer (some ⟨bm, 0, none⟩)]) (ha : BlkL w pa [.int .u8 k, .int .i64 i]) (hr : BlkL w rb [by0, old]) (hp : p ≠ rb ∧ pm ≠ rb ∧ pa ≠ rb) (Tp : Value → World → Prop)
    (HR : Calls Tryd.prog 27 #[.pointer (some ⟨bm, 0, none⟩), .int .i64 i, .pointer (some ⟨rb, 0, none⟩)] (endW w.drew rb (.nilIface)).drew fun e w' => ∃ v, e = .returned v ∧ IfV v ∧ Tp v w' ∧ BlkL w' p [.pointer (some ⟨rb, 0, none⟩)] ∧ BlkL w' pm [.pointer (some ⟨bm, 0, none⟩)] ∧ BlkL w' pa [.int .u8 k, .int .i64 i] ∧ ∃ o2, BlkL w' rb [by0, o2]) :
    CallsD Tryd.prog 49 #[.pointer (some ⟨p, 0, none⟩), .pointer (some ⟨pm, 0, none⟩), .pointer (some ⟨pa, 0, none⟩)] (.returning) w fun e u' w' =>
      e = .returned (.tuple #[]) ∧ u' = .returning ∧ ∃ v w2, Tp v w2 ∧ w' = endW w2 rb v := by
  have h0 := h.drew.cell 0 _ rfl
  have q0 : BlkL (endW w.drew rb (.nilIface)).drew p [.pointer (some ⟨rb, 0, none⟩)] := by first | exact (h.drew.other rb 1 _ hp.1.symm).drew | exact h.drew.drew
  have q1 : BlkL (endW w.drew rb (.nilIface)).drew pm [.pointer (some ⟨bm, 0, none⟩)] := by first | exact (hm.drew.other rb 1 _ hp.2.1.symm).drew | exact hm.drew.drew
  have q2 : BlkL (endW w.drew rb (.nilIface)).drew pa [.int .u8 k, .int .i64 i] := by first | exact (ha.drew.other rb 1 _ hp.2.2.symm).drew | exact ha.drew.drew
  have a0 := q0.cell 0 _ rfl
  have a1 := q1.cell 0 _ rfl
  have a2 := q2.cell 1 _ rfl
  have HE := end_any w.drew rb by0 old (.nilIface) (by constructor) hr.drew
  have HR1 := Lib.hid HR
  clear h hm ha hr HR q0 q1 q2
  refine callsD_of_wpS Tryd.func49 rfl fun c₀ cs hu => ?_
  apply wpS_seq
  have HU := Lib.hid hu
  refine wpS_draw3 rfl rfl rfl rfl ?_ ?_
  all_goals
    simp [wpOpsS, go_sem, recoverD, hu, h0, Tryd.ntmps49, Exit.thenS]
    refine HE.mono ?_
    rintro e w' ⟨rfl, rfl⟩
    refine wpS_of_wp ?_
    clear hu HE h0
    change Code.wp _ _ _ { tmps := #[.pointer (some ⟨p, 0, none⟩), .pointer (some ⟨pm, 0, none⟩), .pointer (some ⟨pa, 0, none⟩), .pointer (some ⟨rb, 0, none⟩), .nilIface, .tuple #[], undef, undef, undef, undef, undef, undef, undef], defers := [] } _
    go_region_held3 (fun w' => w'.cell? ⟨p, 0, none⟩ = some (.pointer (some ⟨rb, 0, none⟩)) ∧ w'.cell? ⟨pm, 0, none⟩ = some (.pointer (some ⟨bm, 0, none⟩)) ∧ w'.cell? ⟨pa, 1, none⟩ = some (.int .i64 i)) (go_keep)
      (first
        | (((with_reducible refine HR1.out.mono ?_); rintro e w2 ⟨v, rfl, hiv, ht, k0, k1, k2, o2, k3⟩; have n0 := k0.cell 0 _ rfl; have n1 := k1.cell 0 _ rfl; have n2 := k2.cell 1 _ rfl; have HT := Lib.hid ht; have K0 := Lib.hid (k0.endW hp.1.symm v); have K1 := Lib.hid (k1.endW hp.2.1.symm v); have K2 := Lib.hid (k2.endW hp.2.2.symm v); have HE2 := Lib.hid (end_any w2 rb by0 o2 v hiv k3); clear ht k0 k1 k2 k3 hiv))
        | (((with_reducible refine HE2.out.mono ?_); rintro e w3 ⟨rfl, rfl⟩; have m0 := K0.out.cell 0 _ rfl; have m1 := K1.out.cell 0 _ rfl; have m2 := K2.out.cell 1 _ rfl)))
    have hu := HU.out
    exact ⟨rfl, .returning, by cases c₀; simp_all, _, by simp [results, Tryd.results49], rfl, rfl, v, w2, HT.out, rfl⟩
theorem begin2_pan (w : World) (p pm pa rb bm : Nat) (k i : Int) (by0 old : Value) (T : TypeId) (x : Value) (older : List PanicEntry) (h : BlkL w p [.pointer (some ⟨rb, 0, none⟩)]) (hm : BlkL w pm [.pointer (some ⟨bm, 0, none⟩)]) (ha : BlkL w pa [.int .u8 k, .int .i64 i]) (hr : BlkL w rb [by0, old]) (hp : p ≠ rb ∧ pm ≠ rb ∧ pa ≠ rb) (Tp : Value → World → Prop)
    (HR : Calls Tryd.prog 27 #[.pointer (some ⟨bm, 0, none⟩), .int .i64 i, .pointer (some ⟨rb, 0, none⟩)] (endW w.drew rb (.iface T x)).drew fun e w' => ∃ v, e = .returned v ∧ IfV v ∧ Tp v w' ∧ BlkL w' p [.pointer (some ⟨rb, 0, none⟩)] ∧ BlkL w' pm [.pointer (some ⟨bm, 0, none⟩)] ∧ BlkL w' pa [.int .u8 k, .int .i64 i] ∧ ∃ o2, BlkL w' rb [by0, o2]) :
    CallsD Tryd.prog 49 #[.pointer (some ⟨p, 0, none⟩), .pointer (some ⟨pm, 0, none⟩), .pointer (some ⟨pa, 0, none⟩)] (.panicking ({ v := .iface T x, recovered := false } :: older)) w fun e u' w' =>
      e = .returned (.tuple #[]) ∧ u' = .panicking ({ v := .iface T x, recovered := true } :: older) ∧ ∃ v w2, Tp v w2 ∧ w' = endW w2 rb v := by
  have h0 := h.drew.cell 0 _ rfl
  have q0 : BlkL (endW w.drew rb (.iface T x)).drew p [.pointer (some ⟨rb, 0, none⟩)] := by first | exact (h.drew.other rb 1 _ hp.1.symm).drew | exact h.drew.drew
  have q1 : BlkL (endW w.drew rb (.iface T x)).drew pm [.pointer (some ⟨bm, 0, none⟩)] := by first | exact (hm.drew.other rb 1 _ hp.2.1.symm).drew | exact hm.drew.drew
  have q2 : BlkL (endW w.drew rb (.iface T x)).drew pa [.int .u8 k, .int .i64 i] := by first | exact (ha.drew.other rb 1 _ hp.2.2.symm).drew | exact ha.drew.drew
  have a0 := q0.cell 0 _ rfl
  have a1 := q1.cell 0 _ rfl
  have a2 := q2.cell 1 _ rfl
  have HE := end_any w.drew rb by0 old (.iface T x) (by constructor) hr.drew
  have HR1 := Lib.hid HR
  clear h hm ha hr HR q0 q1 q2
  refine callsD_of_wpS Tryd.func49 rfl fun c₀ cs hu => ?_
  apply wpS_seq
  have HU := Lib.hid hu
  refine wpS_draw3 rfl rfl rfl rfl ?_ ?_
  all_goals
    simp [wpOpsS, go_sem, recoverD, hu, h0, Tryd.ntmps49, Exit.thenS]
    refine HE.mono ?_
    rintro e w' ⟨rfl, rfl⟩
    refine wpS_of_wp ?_
    clear hu HE h0
    change Code.wp _ _ _ { tmps := #[.pointer (some ⟨p, 0, none⟩), .pointer (some ⟨pm, 0, none⟩), .pointer (some ⟨pa, 0, none⟩), .pointer (some ⟨rb, 0, none⟩), .iface T x, .tuple #[], undef, undef, undef, undef, undef, undef, undef], defers := [] } _
    go_region_held3 (fun w' => w'.cell? ⟨p, 0, none⟩ = some (.pointer (some ⟨rb, 0, none⟩)) ∧ w'.cell? ⟨pm, 0, none⟩ = some (.pointer (some ⟨bm, 0, none⟩)) ∧ w'.cell? ⟨pa, 1, none⟩ = some (.int .i64 i)) (go_keep)
      (first
        | (((with_reducible refine HR1.out.mono ?_); rintro e w2 ⟨v, rfl, hiv, ht, k0, k1, k2, o2, k3⟩; have n0 := k0.cell 0 _ rfl; have n1 := k1.cell 0 _ rfl; have n2 := k2.cell 1 _ rfl; have HT := Lib.hid ht; have K0 := Lib.hid (k0.endW hp.1.symm v); have K1 := Lib.hid (k1.endW hp.2.1.symm v); have K2 := Lib.hid (k2.endW hp.2.2.symm v); have HE2 := Lib.hid (end_any w2 rb by0 o2 v hiv k3); clear ht k0 k1 k2 k3 hiv))
        | (((with_reducible refine HE2.out.mono ?_); rintro e w3 ⟨rfl, rfl⟩; have m0 := K0.out.cell 0 _ rfl; have m1 := K1.out.cell 0 _ rfl; have m2 := K2.out.cell 1 _ rfl)))
    have hu := HU.out
    exact ⟨rfl, .panicking ({ v := .iface T x, recovered := true } :: older), by cases c₀; simp_all, _, by simp [results, Tryd.results49], rfl, rfl, v, w2, HT.out, rfl⟩
end Go.Proofs.YtifldnkcheobhaaDoor
