/- An Epochs: the function values of pending Retires and Collects. -/
import Derived.Test.YtpjgpiiibgogeaaEpH
import Derived.Deep.AppendLies
import Derived.Deep.RegionLaw
import Derived.BigRegion
namespace Go.Proofs.Ytpjgpiiibgogeaa
open Go.RowKit
set_option maxRecDepth 100000
set_option linter.unusedVariables false

theorem thX_mem {A : Option Addr} : ∀ y ∈ thX A, ∃ a, A = some a ∧ a.block = y := by
  intro y hy
  cases A with
  | none => simp [thX] at hy
  | some a => simp [thX] at hy; exact ⟨a, rfl, hy.symm⟩
theorem step_append_off {w : World} {ops : Array Oper} {o : Oper} {a : Act} {K : Act → World → Prop} {Q : Exit → Act → World → Prop} {E : Prop} (hgd : o.guard = none) (s x : Operand) (t : TypeId)
    (ho : o.op = .call { callee := .builtin .append, args := #[s, x], argTypes := #[t, t] })
    (base : Nat) (e : TypeId) (z : Value) (k bytes : Nat) (ht : Try.prog.underlying t = some (.slice e)) (hinfo : (Try.prog.info? e).map (fun i => (i.zero, i.size, i.bytes)) = some (some z, k, bytes)) (hz : z.cells.size = k) (hk : 0 < k)
    (A : Option Addr) (n c : Nat) (cs : List Value) (hs : a.eval s = .slice A n c) (hown : OwnC w base e k A n c cs)
    (g m : Nat) (vs : List Value) (hx : a.eval x = .slice (some ⟨g, 0, none⟩) 1 m) (hvs : vs.length = k) (hcell : ∀ j u, vs[j]? = some u → w.cell? ⟨g, j, none⟩ = some u) (h1 : ∀ u ∈ vs, u.oneCell' = true)
    (hn : n + 1 ≤ maxLen) (hbytes : (n + 1) * bytes ≤ 140737488355328) (hbase : base ≤ w.heap.size)
    (h : ∀ g' c' w', OwnC w' base e k (some ⟨g', 0, none⟩) (n + 1) c' (cs ++ vs) → Off (thX A) w w' → ((∃ a, A = some a ∧ a.block = g') ∨ w.heap.size ≤ g') → K (a.put o.dst (.slice (some ⟨g', 0, none⟩) (n + 1) c')) w') :
    if Region.wanted o (yielded ops a.tmps) = true then Oper.wp Try.prog o a w K Q else E := by
  obtain ⟨i0, hi, hz0, hz1, hz2⟩ := info_parts hinfo
  refine step_append_lies w hgd s x t ho base e i0 z k bytes ht hi hz0 hz1 hz2 hz hk _ n _ hs hown ⟨g, 0, none⟩ 1 m vs hx (by omega) (fun j u hj => ?_) h1 (by omega) hn hbytes hbase w.heap.size rfl ?_
  · have e2 : (⟨g, 0, none⟩ : Addr).add j = ⟨g, j, none⟩ := by unfold Addr.add; split <;> simp_all
    rw [e2]; exact hcell j u hj
  · intro g' cap' w' h2 h3 h4 h5
    refine h g' cap' w' h2 ⟨h3.os, h3.tape, h3.output, h3.size, fun k hk hs => h3.block k hk (fun e => hs ?_)⟩ ?_
    · cases A with
      | none => simp [Value.ownBlock] at e
      | some a => simp [Value.ownBlock] at e; simp [thX, e]
    · rcases h4 with e | e
      · cases A with
        | none => simp [Value.ownBlock] at e
        | some a => simp [Value.ownBlock] at e; exact .inl ⟨a, rfl, e⟩
      · exact .inr (by omega)
section
variable {w w' : World} {B x b bw wb W : Nat} {X : List Nat} {k : Nat} {s : EpV} {fv : Nat → Value} {rA : Nat → Option Addr} {rc : Nat → Nat} {ring : List Value} {p : Nat} {v : Value}

set_option maxHeartbeats 6400000 in
theorem cl_retire (h : EpR w B x b bw wb W X k s fv rA rc ring) (hk : k < 9223372036854775807) (i : Nat) (hi : i < W) (t : Int) (hE : s.E < 9223372036854775807) (hL : (s.wk i).gs.length < 4096) (p0 : Nat) (p1 : Nat) (p2 : Nat) (h0 : BlkL w p0 [PV x]) (h1 : BlkL w p1 [IV i]) (h2 : BlkL w p2 [.int .i64 t]) (a0 : ¬ QE x b bw wb W X rA p0) (a1 : ¬ QE x b bw wb W X rA p1) (a2 : ¬ QE x b bw wb W X rA p2) :
    Calls Try.prog 103 #[PV p0, PV p1, PV p2] w (ClR w B x b bw wb W X k fv i ⟨okEq s.E, s.setK i { s.wk i with gs := (s.wk i).gs ++ [(t, s.E)] }, .none⟩) := by
  have hb0 : Below w.heap.size w (w.alloc RB) := ((Below.refl w.heap.size w).alloc (Nat.le_refl _) _)
  have e0 := h.reX (X' := w.heap.size :: X) hb0 (fun y hy => by rcases List.mem_cons.1 hy with e | e; exact .inr ⟨by omega, by rw [e]; simp⟩; exact .inl e)
  have K0 := Lib.hid (h0.below hb0)
  have g0 := h0.cell 0 _ rfl
  have l0 := h0.lt
  have A0 := Lib.hid a0
  have K1 := Lib.hid (h1.below hb0)
  have g1 := h1.cell 0 _ rfl
  have l1 := h1.lt
  have A1 := Lib.hid a1
  have K2 := Lib.hid (h2.below hb0)
  have g2 := h2.cell 0 _ rfl
  have l2 := h2.lt
  have A2 := Lib.hid a2
  have KR := Lib.hid (BlkL.new w [.bool false, .int .i64 0, .int .i64 0, .slice none 0 0] 37)
  have hrb : w.heap.size ∉ [b, bw] := by have := h.lts; simp; omega
  have HRB := Lib.hid hrb
  have HB0 := Lib.hid hb0
  have H := Lib.hid h
  have HL := Lib.hid (load0_any e0 hk i hi)
  have ew2 : IntKind.i64.wrap (s.E : Int) = (s.E : Int) := IntWalk.i64_in _ (by omega)
  have j0 : (0 : Int) ≤ (i : Int) := by omega
  have j1 : (i : Int) < (W : Int) := by omega
  clear h hb0 hrb h0 a0 h1 a1 h2 a2 e0
  go_enter Try.func103, Try.ntmps103
  go_wp2_with fail
  with_reducible refine (HL.out).mono ?_
  rintro e w2 ⟨rfl, ⟨ring2, e2⟩, hf2⟩
  have k0 := cap_ld K0.out A0.out hf2
  have k1 := cap_ld K1.out A1.out hf2
  have k2 := cap_ld K2.out A2.out hf2
  have n0 := k0.cell 0 _ rfl
  have m0 := k0.lt
  have n1 := k1.cell 0 _ rfl
  have m1 := k1.lt
  have n2 := k2.cell 0 _ rfl
  have m2 := k2.lt
  have c1 := e2.c1
  have u2 := e2.k2 hi
  have f2 := e2.fr (i := i * 3 + 2) (by omega)
  have lw := e2.lts.2.2.2
  have lx := e2.lts.1
  have KR2 := Lib.hid (KR.out.off (hf2.mono (S' := [b, bw]) (by simp)) HRB.out)
  have HE2 := Lib.hid e2
  have HF2 := Lib.hid hf2
  clear k0 k1 k2 e2 hf2 HL
  generalize hEE : s.E = E at *
  have HEE := Lib.hid hEE
  clear hEE
  go_wp2_with fail
  go_region
  go_wp2_with fail
  have hb3 : Below w2.heap.size w2 (w2.drew.alloc (.cells #[.int .i64 t, .int .i64 (E : Int)] TG)).drew := (((Below.refl w2.heap.size w2).drew).alloc (Nat.le_refl _) _).drew
  have e3 := HE2.out.below hb3
  have HE3 := Lib.hid e3
  have HO3 := Lib.hid (e3.row i hi)
  have KT := Lib.hid ((BlkL.new w2.drew [.int .i64 t, .int .i64 (E : Int)] TG).drew)
  have hB3 := e3.le_
  have hwbn : wb ∉ thX (rA i) := fun hm => by
    have hr := e3.rX i hi
    revert hm hr
    cases rA i with
    | none => intro hm; simp [thX] at hm
    | some a => intro hm hr; have := hr a rfl; simp [thX] at hm; simp [hm] at this
  have lw3 : wb < (w2.drew.alloc (.cells #[.int .i64 t, .int .i64 (E : Int)] TG)).drew.heap.size := e3.lts.2.2.2
  have HUF := Lib.hid (And.intro (e3.k2 hi) (e3.fr (i := i * 3 + 2) (by omega)))
  have hm1 : (s.wk i).gs.length + 1 ≤ maxLen := by unfold maxLen; omega
  have hm2 : ((s.wk i).gs.length + 1) * 16 ≤ 140737488355328 := by omega
  have hb3' := Lib.hid hb3
  clear e3 hb3
  go_region_law (first
    | (refine step_append_off rfl (.tmp 21) (.tmp 25) 121 rfl B TG _ 2 16 Try.underlying121 given_info rfl (by omega) (rA i) (s.wk i).gs.length (rc i) _ rfl HO3.out w2.heap.size 1 [.int .i64 t, .int .i64 (E : Int)] rfl rfl KT.out.cell (by simp [Value.oneCell']) hm1 hm2 hB3 ?_; intro g' c' w5 ho5 hf5 hg5; have u5 := (hf5.cell (p := ⟨wb, i * 3 + 2, none⟩) lw3 hwbn).trans HUF.out.1; have f5 := (hf5.frozen (p := ⟨wb, i * 3 + 2, none⟩) lw3 hwbn).trans HUF.out.2; have lw5 : wb < w5.heap.size := Nat.lt_of_lt_of_le lw3 hf5.size; have HO5 := Lib.hid ho5; have HF5 := Lib.hid hf5; have HG5 := Lib.hid hg5; clear ho5 hf5 hg5))
  all_goals
    clear u5 f5 u2 f2 c1 g0 g1 g2 n0 n1 n2
    have hlen : ((s.wk i).gs ++ [(t, E)]).length = (s.wk i).gs.length + 1 := by simp
    have hS : ∀ y ∈ thX (rA i), ∃ a, rA i = some a ∧ a.block = y := thX_mem
    have hz := HE3.out.setRow hi HF5.out hS (A := some ⟨g', 0, none⟩) (c := c') (gs := (s.wk i).gs ++ [(t, E)]) (fun a e => by cases e; exact HG5.out) (by
      rw [hlen, GVs_append]; exact HO5.out)
    rw [hlen] at hz
    have hrn : w.heap.size ∉ thX (rA i) := fun hm => by obtain ⟨a, e1, e2⟩ := hS _ hm; exact HE3.out.rX i hi a e1 (by simp [e2])
    have hrw : w.heap.size ∉ [wb] := by have := H.out.lts; simp; omega
    have hwS : Off [wb] w5 (w5.setCell ⟨wb, i * 3 + 2, none⟩ (.slice (some ⟨g', 0, none⟩) ((s.wk i).gs.length + 1) c')) := (Off.refl _ _).setCell (by simp) _
    have kr5 := ((KR2.out.below hb3'.out).off HF5.out hrn).off hwS hrw
    have hfr := (((FrX.of_below HB0.out).trans (H.out.fr1b HF2.out)).trans (FrX.of_below hb3'.out)).trans (((HE3.out.frR hi HF5.out hS).weak (X' := X) (fun y hy => List.mem_cons_of_mem _ hy)).trans (H.out.frwb hwS))
    have KR5 := Lib.hid kr5
    have HZ := Lib.hid (And.intro hz hfr)
    generalize w5.setCell ⟨wb, i * 3 + 2, none⟩ (.slice (some ⟨g', 0, none⟩) ((s.wk i).gs.length + 1) c') = w6 at *
    clear hz hfr kr5 hwS
    go_wp2_with fail
    with_reducible refine (done13_any _ _).mono ?_
    rintro e w4 ⟨rfl, hb4⟩
    have kr4 := KR5.out.below hb4
    have z0 := kr4.cell 0 _ rfl
    have z1 := kr4.cell 1 _ rfl
    have z2 := kr4.cell 2 _ rfl
    have z3 := kr4.cell 3 _ rfl
    have y0 := kr4.froz 0 (by simp)
    have y1 := kr4.froz 1 (by simp)
    have y2 := kr4.froz 2 (by simp)
    have y3 := kr4.froz 3 (by simp)
    have zl := kr4.lt
    have KRL := Lib.hid kr4
    have HB4 := Lib.hid hb4
    clear hb4 kr4
    have e5 := HZ.out.1.below HB4.out
    have hc5 : ClV w4 (QE x b bw wb W (w.heap.size :: X) (updF rA i (some ⟨g', 0, none⟩))) (capsE x i .none) .nilFunc := rfl
    have hfr := HZ.out.2.trans (FrX.of_below (B := B) (X := X) HB4.out)
    go_wp2
    have kf := KRL.out.put4 (.bool true) (.int .i64 0) (.int .i64 (E : Int)) (.slice none 0 0)
    have q0 := kf.cell 0 _ rfl
    have q1 := kf.cell 1 _ rfl
    have q2 := kf.cell 2 _ rfl
    have q3 := kf.cell 3 _ rfl
    refine bodyPost_ret (v := .tuple #[.agg #[.bool true, .int .i64 0, .int .i64 (E : Int), .slice none 0 0], .nilFunc]) ?_ ?_ (ClR.fin (q := okEq E) H.out.le_ H.out.hX e5 hc5 hfr _ _ _ _ rfl rfl)
    · simp [results, Try.results103, go_sem, q0, q1, q2, q3]
    · rfl

end
end Go.Proofs.Ytpjgpiiibgogeaa
