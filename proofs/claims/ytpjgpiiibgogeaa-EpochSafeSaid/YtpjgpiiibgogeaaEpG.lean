/- An Epochs: the function values of pending calls: Pin, Advance begin. -/
import Derived.Test.YtpjgpiiibgogeaaEpF
namespace Go.Proofs.Ytpjgpiiibgogeaa
open Go.RowKit
set_option maxRecDepth 100000
set_option linter.unusedVariables false

abbrev RB : Obj := .cells #[.bool false, .int .i64 0, .int .i64 0, .slice none 0 0] 37
section
variable {w w' : World} {B x b bw wb W : Nat} {X : List Nat} {k : Nat} {s : EpV} {fv : Nat → Value} {rA : Nat → Option Addr} {rc : Nat → Nat} {ring : List Value} {p : Nat} {v : Value}
theorem QE.no (a : ¬ QE x b bw wb W X rA p) : p ≠ x ∧ p ≠ b ∧ p ≠ bw ∧ p ≠ wb ∧ p ∉ X := by
  have h : ¬ (p ∈ x :: b :: bw :: wb :: X) := fun hm => a (.inl hm)
  simpa only [List.mem_cons, not_or] using h
theorem cap_ld (h0 : BlkL w p [v]) (a0 : ¬ QE x b bw wb W X rA p) (hf : Off [b] w w') : BlkL w' p [v] := h0.off hf (by have := QE.no a0; simpa using this.2.1)
theorem cap_sw (h0 : BlkL w p [v]) (a0 : ¬ QE x b bw wb W X rA p) (hf : Off [b, bw] w w') : BlkL w' p [v] := h0.off hf (by have := QE.no a0; simp [this.2.1, this.2.2.1])
theorem EpR.le_ (h : EpR w B x b bw wb W X k s fv rA rc ring) : B ≤ w.heap.size := by have := h.lts; have := h.ge; omega
theorem EpR.fr1b {w0 : World} (h : EpR w B x b bw wb W X k s fv rA rc ring) (hf : Off [b] w0 w') : FrX B X w0 w' := by
  refine ⟨_, hf, fun y hy => ?_⟩
  have hg := h.ge
  have hn := fun hm => h.nX y hm
  simp only [List.mem_cons, List.not_mem_nil, or_false] at hy hn
  exact ⟨by omega, fun hm => hn hm (.inr (.inl hy))⟩
theorem EpR.fr2b {w0 : World} (h : EpR w B x b bw wb W X k s fv rA rc ring) (hf : Off [b, bw] w0 w') : FrX B X w0 w' := by
  refine ⟨_, hf, fun y hy => ?_⟩
  have hg := h.ge
  have hn := fun hm => h.nX y hm
  simp only [List.mem_cons, List.not_mem_nil, or_false] at hy hn
  refine ⟨by omega, fun hm => hn hm ?_⟩
  rcases hy with e | e
  · exact .inr (.inl e)
  · exact .inr (.inr (.inl e))
theorem EpR.frwb {w0 : World} (h : EpR w B x b bw wb W X k s fv rA rc ring) (hf : Off [wb] w0 w') : FrX B X w0 w' := by
  refine ⟨_, hf, fun y hy => ?_⟩
  have hg := h.ge
  have hn := fun hm => h.nX y hm
  simp only [List.mem_cons, List.not_mem_nil, or_false] at hy hn
  exact ⟨by omega, fun hm => hn hm (.inr (.inr (.inr hy)))⟩
theorem load0_any (h : EpR w B x b bw wb W X k s fv rA rc ring) (hk : k < 9223372036854775807) (i : Nat) (hi : i < W) : Calls Try.prog 99 #[PV x, IV i, .int .i64 0] w fun e w' => e = .returned (UV s.E) ∧ (∃ ring', EpR w' B x b bw wb W X (k + 1) s fv rA rc ring') ∧ Off [b] w w' :=
  load_any h hk i 0 hi (by omega)
theorem mk_mark0 (w : World) (x i e : Nat) (Q : Nat → Prop) (hQ : ∀ p, Q p → p < w.heap.size) : Calls Try.prog 98 #[PV x, IV i, .int .u64 0, UV e] w fun e' w' => ∃ f, e' = .returned f ∧ (ClV w' Q (capsE x i (.mark 0 e)) f ∧ ∃ (K : Nat) (cs : Array Value), f = .func (.func K) #[] cs) ∧ Below w.heap.size w w' :=
  mk_mark w x i 0 e Q hQ
theorem mk_look0 (w : World) (x i e : Nat) (Q : Nat → Prop) (hQ : ∀ p, Q p → p < w.heap.size) : Calls Try.prog 105 #[PV x, IV i, .int .i64 0, UV e] w fun e' w' => ∃ f, e' = .returned f ∧ (ClV w' Q (capsE x i (.look 0 e)) f ∧ ∃ (K : Nat) (cs : Array Value), f = .func (.func K) #[] cs) ∧ Below w.heap.size w w' :=
  mk_look w x i 0 e Q hQ






set_option maxHeartbeats 6400000 in
theorem cl_pin (h : EpR w B x b bw wb W X k s fv rA rc ring) (hk : k < 9223372036854775807) (i : Nat) (hi : i < W) (p0 : Nat) (p1 : Nat) (h0 : BlkL w p0 [PV x]) (h1 : BlkL w p1 [IV i]) (a0 : ¬ QE x b bw wb W X rA p0) (a1 : ¬ QE x b bw wb W X rA p1) :
    Calls Try.prog 96 #[PV p0, PV p1] w (ClR w B x b bw wb W X k fv i ⟨noEq, s, .mark 0 s.E⟩) := by
  have hb0 : Below w.heap.size w (w.alloc RB).drew := ((Below.refl w.heap.size w).alloc (Nat.le_refl _) _).drew
  have e0 := h.reX (X' := w.heap.size :: X) hb0 (fun y hy => by rcases List.mem_cons.1 hy with e | e; exact .inr ⟨by omega, by rw [e]; simp⟩; exact .inl e)
  have K0 := Lib.hid (h0.below hb0)
  have g0 := h0.cell 0 _ rfl
  have l0 := h0.lt
  have A0 := Lib.hid a0
  have K1 := Lib.hid (h1.below hb0)
  have g1 := h1.cell 0 _ rfl
  have l1 := h1.lt
  have A1 := Lib.hid a1
  have KR := Lib.hid (BlkL.new w [.bool false, .int .i64 0, .int .i64 0, .slice none 0 0] 37).drew
  have hrb : w.heap.size ∉ [b, bw] := by have := h.lts; simp; omega
  have HRB := Lib.hid hrb
  have HB0 := Lib.hid hb0
  have H := Lib.hid h
  have HL := Lib.hid (load0_any e0 hk i hi)
  clear h hb0 hrb h0 a0 h1 a1 e0
  go_enter Try.func96, Try.ntmps96
  go_wp2_with fail
  go_region_held3 (fun w' => w'.cell? ⟨p0, 0, none⟩ = some (PV x) ∧ w'.cell? ⟨p1, 0, none⟩ = some (IV i)) (first | go_keep | (refine ⟨?_, ?_⟩ <;> (rw [World.cell?_setCell_other _ _ _ _ (by simp <;> omega), World.cell?_setCell_other _ _ _ _ (by simp <;> omega), World.cell?_setCell_other _ _ _ _ (by simp <;> omega), World.cell?_setCell_other _ _ _ _ (by simp <;> omega)]; assumption)))
    (first
    | ((with_reducible refine (HL.out).mono ?_); rintro e w2 ⟨rfl, ⟨ring2, e2⟩, hf2⟩; have k0 := cap_ld K0.out A0.out hf2; have k1 := cap_ld K1.out A1.out hf2; have n0 := k0.cell 0 _ rfl; have m0 := k0.lt; have n1 := k1.cell 0 _ rfl; have m1 := k1.lt; have HM := Lib.hid (mk_mark0 w2 x i s.E (QE x b bw wb W (w.heap.size :: X) rA) (fun p hp => e2.qlt hp)); have K2 := Lib.hid (And.intro k0 k1); have KR2 := Lib.hid (KR.out.off (hf2.mono (S' := [b, bw]) (by simp)) HRB.out); have HE2 := Lib.hid e2; have HF2 := Lib.hid hf2; clear k0 k1 e2 hf2)
    | ((with_reducible refine (HM.out).mono ?_); rintro e w3 ⟨f, rfl, ⟨hcl, K, cs, rfl⟩, hb3⟩; have k0 := K2.out.1.below hb3; have k1 := K2.out.2.below hb3; have n0 := k0.cell 0 _ rfl; have m0 := k0.lt; have n1 := k1.cell 0 _ rfl; have m1 := k1.lt; have HG := Lib.hid (goOn_any w3 K #[] cs); have K3 := Lib.hid (And.intro k0 k1); have KR3 := Lib.hid (KR2.out.below hb3); have HC3 := Lib.hid hcl; have HB3 := Lib.hid hb3; clear k0 k1 hcl hb3)
    | ((with_reducible refine (HG.out).mono ?_); rintro e w4 ⟨rfl, hb4⟩; have k0 := K3.out.1.below hb4; have k1 := K3.out.2.below hb4; have n0 := k0.cell 0 _ rfl; have m0 := k0.lt; have n1 := k1.cell 0 _ rfl; have m1 := k1.lt; have kr4 := KR3.out.below hb4; have z0 := kr4.cell 0 _ rfl; have z1 := kr4.cell 1 _ rfl; have z2 := kr4.cell 2 _ rfl; have z3 := kr4.cell 3 _ rfl; have y0 := kr4.froz 0 (by simp); have y1 := kr4.froz 1 (by simp); have y2 := kr4.froz 2 (by simp); have y3 := kr4.froz 3 (by simp); have zl := kr4.lt; have KRL := Lib.hid kr4; have HB4 := Lib.hid hb4; clear k0 k1 hb4))
  have e5 := (HE2.out.below HB3.out).below HB4.out
  have hc5 := HC3.out.off (Off.of_below (S := []) HB4.out) (by simp)
  have hfr := (((FrX.of_below HB0.out).trans (H.out.fr1b HF2.out)).trans (FrX.of_below HB3.out)).trans (FrX.of_below (B := B) (X := X) HB4.out)
  go_wp2
  have kf := KRL.out.put4 (.bool false) (.int .i64 0) (.int .i64 0) (.slice none 0 0)
  have q0 := kf.cell 0 _ rfl
  have q1 := kf.cell 1 _ rfl
  have q2 := kf.cell 2 _ rfl
  have q3 := kf.cell 3 _ rfl
  refine bodyPost_ret (v := .tuple #[.agg #[.bool false, .int .i64 0, .int .i64 0, .slice none 0 0], .func (.func K) #[] cs]) ?_ ?_ (ClR.fin (q := noEq) H.out.le_ H.out.hX e5 hc5 hfr _ _ _ _ rfl rfl)
  · simp [results, Try.results96, go_sem, q0, q1, q2, q3]
  · rfl

set_option maxHeartbeats 6400000 in
theorem cl_advance (h : EpR w B x b bw wb W X k s fv rA rc ring) (hk : k < 9223372036854775807) (i : Nat) (hi : i < W) (p0 : Nat) (p1 : Nat) (h0 : BlkL w p0 [PV x]) (h1 : BlkL w p1 [IV i]) (a0 : ¬ QE x b bw wb W X rA p0) (a1 : ¬ QE x b bw wb W X rA p1) :
    Calls Try.prog 104 #[PV p0, PV p1] w (ClR w B x b bw wb W X k fv i ⟨noEq, s, .look 0 s.E⟩) := by
  have hb0 : Below w.heap.size w (w.alloc RB).drew := ((Below.refl w.heap.size w).alloc (Nat.le_refl _) _).drew
  have e0 := h.reX (X' := w.heap.size :: X) hb0 (fun y hy => by rcases List.mem_cons.1 hy with e | e; exact .inr ⟨by omega, by rw [e]; simp⟩; exact .inl e)
  have K0 := Lib.hid (h0.below hb0)
  have g0 := h0.cell 0 _ rfl
  have l0 := h0.lt
  have A0 := Lib.hid a0
  have K1 := Lib.hid (h1.below hb0)
  have g1 := h1.cell 0 _ rfl
  have l1 := h1.lt
  have A1 := Lib.hid a1
  have KR := Lib.hid (BlkL.new w [.bool false, .int .i64 0, .int .i64 0, .slice none 0 0] 37).drew
  have hrb : w.heap.size ∉ [b, bw] := by have := h.lts; simp; omega
  have HRB := Lib.hid hrb
  have HB0 := Lib.hid hb0
  have H := Lib.hid h
  have HL := Lib.hid (load0_any e0 hk i hi)
  clear h hb0 hrb h0 a0 h1 a1 e0
  go_enter Try.func104, Try.ntmps104
  go_wp2_with fail
  go_region_held3 (fun w' => w'.cell? ⟨p0, 0, none⟩ = some (PV x) ∧ w'.cell? ⟨p1, 0, none⟩ = some (IV i)) (first | go_keep | (refine ⟨?_, ?_⟩ <;> (rw [World.cell?_setCell_other _ _ _ _ (by simp <;> omega), World.cell?_setCell_other _ _ _ _ (by simp <;> omega), World.cell?_setCell_other _ _ _ _ (by simp <;> omega), World.cell?_setCell_other _ _ _ _ (by simp <;> omega)]; assumption)))
    (first
    | ((with_reducible refine (HL.out).mono ?_); rintro e w2 ⟨rfl, ⟨ring2, e2⟩, hf2⟩; have k0 := cap_ld K0.out A0.out hf2; have k1 := cap_ld K1.out A1.out hf2; have n0 := k0.cell 0 _ rfl; have m0 := k0.lt; have n1 := k1.cell 0 _ rfl; have m1 := k1.lt; have HM := Lib.hid (mk_look0 w2 x i s.E (QE x b bw wb W (w.heap.size :: X) rA) (fun p hp => e2.qlt hp)); have K2 := Lib.hid (And.intro k0 k1); have KR2 := Lib.hid (KR.out.off (hf2.mono (S' := [b, bw]) (by simp)) HRB.out); have HE2 := Lib.hid e2; have HF2 := Lib.hid hf2; clear k0 k1 e2 hf2)
    | ((with_reducible refine (HM.out).mono ?_); rintro e w3 ⟨f, rfl, ⟨hcl, K, cs, rfl⟩, hb3⟩; have k0 := K2.out.1.below hb3; have k1 := K2.out.2.below hb3; have n0 := k0.cell 0 _ rfl; have m0 := k0.lt; have n1 := k1.cell 0 _ rfl; have m1 := k1.lt; have HG := Lib.hid (goOn_any w3 K #[] cs); have K3 := Lib.hid (And.intro k0 k1); have KR3 := Lib.hid (KR2.out.below hb3); have HC3 := Lib.hid hcl; have HB3 := Lib.hid hb3; clear k0 k1 hcl hb3)
    | ((with_reducible refine (HG.out).mono ?_); rintro e w4 ⟨rfl, hb4⟩; have k0 := K3.out.1.below hb4; have k1 := K3.out.2.below hb4; have n0 := k0.cell 0 _ rfl; have m0 := k0.lt; have n1 := k1.cell 0 _ rfl; have m1 := k1.lt; have kr4 := KR3.out.below hb4; have z0 := kr4.cell 0 _ rfl; have z1 := kr4.cell 1 _ rfl; have z2 := kr4.cell 2 _ rfl; have z3 := kr4.cell 3 _ rfl; have y0 := kr4.froz 0 (by simp); have y1 := kr4.froz 1 (by simp); have y2 := kr4.froz 2 (by simp); have y3 := kr4.froz 3 (by simp); have zl := kr4.lt; have KRL := Lib.hid kr4; have HB4 := Lib.hid hb4; clear k0 k1 hb4))
  have e5 := (HE2.out.below HB3.out).below HB4.out
  have hc5 := HC3.out.off (Off.of_below (S := []) HB4.out) (by simp)
  have hfr := (((FrX.of_below HB0.out).trans (H.out.fr1b HF2.out)).trans (FrX.of_below HB3.out)).trans (FrX.of_below (B := B) (X := X) HB4.out)
  go_wp2
  have kf := KRL.out.put4 (.bool false) (.int .i64 0) (.int .i64 0) (.slice none 0 0)
  have q0 := kf.cell 0 _ rfl
  have q1 := kf.cell 1 _ rfl
  have q2 := kf.cell 2 _ rfl
  have q3 := kf.cell 3 _ rfl
  refine bodyPost_ret (v := .tuple #[.agg #[.bool false, .int .i64 0, .int .i64 0, .slice none 0 0], .func (.func K) #[] cs]) ?_ ?_ (ClR.fin (q := noEq) H.out.le_ H.out.hX e5 hc5 hfr _ _ _ _ rfl rfl)
  · simp [results, Try.results104, go_sem, q0, q1, q2, q3]
  · rfl

set_option maxHeartbeats 6400000 in
theorem cl_mark (h : EpR w B x b bw wb W X k s fv rA rc ring) (hk : k < 9223372036854775807) (i : Nat) (hi : i < W) (old e : Nat) (he : e < 9223372036854775807) (s' : EpV) (hs : (if s.P i = old then s.setW (i + 1) (e + 1) else s) = s') (p0 : Nat) (p1 : Nat) (p2 : Nat) (p3 : Nat) (h0 : BlkL w p0 [PV x]) (h1 : BlkL w p1 [IV i]) (h2 : BlkL w p2 [UV old]) (h3 : BlkL w p3 [UV e]) (a0 : ¬ QE x b bw wb W X rA p0) (a1 : ¬ QE x b bw wb W X rA p1) (a2 : ¬ QE x b bw wb W X rA p2) (a3 : ¬ QE x b bw wb W X rA p3) :
    Calls Try.prog 115 #[PV p0, PV p1, PV p2, PV p3] w (ClR w B x b bw wb W X k fv i ⟨noEq, s', .confirm e⟩) := by
  have hb0 : Below w.heap.size w (w.alloc RB).drew := ((Below.refl w.heap.size w).alloc (Nat.le_refl _) _).drew
  have e0 := h.reX (X' := w.heap.size :: X) hb0 (fun y hy => by rcases List.mem_cons.1 hy with e | e; exact .inr ⟨by omega, by rw [e]; simp⟩; exact .inl e)
  have K0 := Lib.hid (h0.below hb0)
  have g0 := h0.cell 0 _ rfl
  have l0 := h0.lt
  have A0 := Lib.hid a0
  have K1 := Lib.hid (h1.below hb0)
  have g1 := h1.cell 0 _ rfl
  have l1 := h1.lt
  have A1 := Lib.hid a1
  have K2 := Lib.hid (h2.below hb0)
  have g2 := h2.cell 0 _ rfl
  have l2 := h2.lt
  have A2 := Lib.hid a2
  have K3 := Lib.hid (h3.below hb0)
  have g3 := h3.cell 0 _ rfl
  have l3 := h3.lt
  have A3 := Lib.hid a3
  have KR := Lib.hid (BlkL.new w [.bool false, .int .i64 0, .int .i64 0, .slice none 0 0] 37).drew
  have hrb : w.heap.size ∉ [b, bw] := by have := h.lts; simp; omega
  have HRB := Lib.hid hrb
  have HB0 := Lib.hid hb0
  have H := Lib.hid h
  have HO := Lib.hid (wordOf_any (w.alloc RB).drew i (by have := e0.w64; omega))
  have hl : Calls Try.prog 101 #[PV x, IV i, IV (i + 1), UV old, .int .u64 ((e : Int) + 1)] (w.alloc RB).drew _ := swap_any e0 hk i (i + 1) old (e + 1) hi (by omega) _ rfl s' hs
  have HL := Lib.hid hl
  have ew : IntKind.u64.wrap ((e : Int) + 1) = (e : Int) + 1 := IntWalk.u64_in _ (by omega)
  clear h hb0 hrb h0 a0 h1 a1 h2 a2 h3 a3 e0 hs hl
  go_enter Try.func115, Try.ntmps115
  go_wp2_with fail
  go_region_held3 (fun w' => w'.cell? ⟨p0, 0, none⟩ = some (PV x) ∧ w'.cell? ⟨p1, 0, none⟩ = some (IV i) ∧ w'.cell? ⟨p2, 0, none⟩ = some (UV old) ∧ w'.cell? ⟨p3, 0, none⟩ = some (UV e)) (first | go_keep | (refine ⟨?_, ?_, ?_, ?_⟩ <;> (rw [World.cell?_setCell_other _ _ _ _ (by simp <;> omega), World.cell?_setCell_other _ _ _ _ (by simp <;> omega), World.cell?_setCell_other _ _ _ _ (by simp <;> omega), World.cell?_setCell_other _ _ _ _ (by simp <;> omega)]; assumption)))
    (first
    | ((with_reducible refine (HO.out).mono ?_); rintro e w1 ⟨rfl, hw⟩; subst hw)
    | ((with_reducible refine (HL.out).mono ?_); rintro e w2 ⟨rfl, ⟨ring2, e2⟩, hf2⟩; have k0 := cap_sw K0.out A0.out hf2; have k1 := cap_sw K1.out A1.out hf2; have k2 := cap_sw K2.out A2.out hf2; have k3 := cap_sw K3.out A3.out hf2; have n0 := k0.cell 0 _ rfl; have m0 := k0.lt; have n1 := k1.cell 0 _ rfl; have m1 := k1.lt; have n2 := k2.cell 0 _ rfl; have m2 := k2.lt; have n3 := k3.cell 0 _ rfl; have m3 := k3.lt; have HM := Lib.hid (mk_confirm w2 x i e (QE x b bw wb W (w.heap.size :: X) rA) (fun p hp => e2.qlt hp)); have KR2 := Lib.hid (KR.out.off hf2 HRB.out); have HE2 := Lib.hid e2; have HF2 := Lib.hid hf2; clear k0 k1 k2 k3 e2 hf2))
  go_wp2_with fail
  with_reducible refine (HM.out).mono ?_
  rintro e w3 ⟨f, rfl, ⟨hcl, K, cs, rfl⟩, hb3⟩
  have HG := Lib.hid (goOn_any w3 K #[] cs)
  have KR3 := Lib.hid (KR2.out.below hb3)
  have HC3 := Lib.hid hcl
  have HB3 := Lib.hid hb3
  clear hcl hb3 HM
  go_wp2_with fail
  with_reducible refine (HG.out).mono ?_
  rintro e w4 ⟨rfl, hb4⟩
  have kr4 := KR3.out.below hb4
  have z0 := kr4.cell 0 _ rfl
  have z1 := kr4.cell 1 _ rfl
  have z2 := kr4.cell 2 _ rfl
  have z3 := kr4.cell 3 _ rfl
  have y0 := kr4.froz 0 (by simp)
  have y1 := kr4.froz 1 (by simp)
  have y2 := kr4.froz 2 (by simp)
  have y3 := kr4.froz 3 (by simp)
  have zl := kr4.lt
  have KRL := Lib.hid kr4
  have HB4 := Lib.hid hb4
  clear hb4 kr4 HG
  have e5 := (HE2.out.below HB3.out).below HB4.out
  have hc5 := HC3.out.off (Off.of_below (S := []) HB4.out) (by simp)
  have hfr := (((FrX.of_below HB0.out).trans (H.out.fr2b HF2.out)).trans (FrX.of_below HB3.out)).trans (FrX.of_below (B := B) (X := X) HB4.out)
  go_wp2
  have kf := KRL.out.put4 (.bool false) (.int .i64 0) (.int .i64 0) (.slice none 0 0)
  have q0 := kf.cell 0 _ rfl
  have q1 := kf.cell 1 _ rfl
  have q2 := kf.cell 2 _ rfl
  have q3 := kf.cell 3 _ rfl
  refine bodyPost_ret (v := .tuple #[.agg #[.bool false, .int .i64 0, .int .i64 0, .slice none 0 0], .func (.func K) #[] cs]) ?_ ?_ (ClR.fin (q := noEq) H.out.le_ H.out.hX e5 hc5 hfr _ _ _ _ rfl rfl)
  · simp [results, Try.results115, go_sem, q0, q1, q2, q3]
  · rfl

set_option maxHeartbeats 6400000 in
theorem cl_confirm_no (h : EpR w B x b bw wb W X k s fv rA rc ring) (hk : k < 9223372036854775807) (i : Nat) (hi : i < W) (e : Nat) (he : e < 9223372036854775807) (hE : s.E ≠ e) (p0 : Nat) (p1 : Nat) (p2 : Nat) (h0 : BlkL w p0 [PV x]) (h1 : BlkL w p1 [IV i]) (h2 : BlkL w p2 [UV e]) (a0 : ¬ QE x b bw wb W X rA p0) (a1 : ¬ QE x b bw wb W X rA p1) (a2 : ¬ QE x b bw wb W X rA p2) :
    Calls Try.prog 124 #[PV p0, PV p1, PV p2] w (ClR w B x b bw wb W X k fv i ⟨noEq, s, .mark (e + 1) s.E⟩) := by
  have hb0 : Below w.heap.size w (w.alloc RB) := ((Below.refl w.heap.size w).alloc (Nat.le_refl _) _)
  have e0 := h.reX (X' := w.heap.size :: X) hb0 (fun y hy => by rcases List.mem_cons.1 hy with e | e; exact .inr ⟨by omega, by rw [e]; simp⟩; exact .inl e)
  have K0 := Lib.hid (h0.below hb0)
  have g0 := h0.cell 0 _ rfl
  have l0 := h0.lt
  have A0 := Lib.hid a0
  have K1 := Lib.hid (h1.below hb0)
  have g1 := h1.cell 0 _ rfl
  have l1 := h1.lt
  have A1 := Lib.hid a1
  have K2 := Lib.hid (h2.below hb0)
  have g2 := h2.cell 0 _ rfl
  have l2 := h2.lt
  have A2 := Lib.hid a2
  have KR := Lib.hid (BlkL.new w [.bool false, .int .i64 0, .int .i64 0, .slice none 0 0] 37)
  have hrb : w.heap.size ∉ [b, bw] := by have := h.lts; simp; omega
  have HRB := Lib.hid hrb
  have HB0 := Lib.hid hb0
  have H := Lib.hid h
  have HL := Lib.hid (load0_any e0 hk i hi)
  have ew : IntKind.u64.wrap ((e : Int) + 1) = (e : Int) + 1 := IntWalk.u64_in _ (by omega)
  have hE2 : ¬ (s.E : Int) = (e : Int) := by omega
  have HMM := Lib.hid (fun w2 (hQ : ∀ p, QE x b bw wb W (w.heap.size :: X) rA p → p < w2.heap.size) => (show Calls Try.prog 98 #[PV x, IV i, .int .u64 ((e : Int) + 1), UV s.E] w2 _ from mk_mark w2 x i (e + 1) s.E _ hQ))
  clear h hb0 hrb h0 a0 h1 a1 h2 a2 e0 hE
  go_enter Try.func124, Try.ntmps124
  go_wp2_with fail
  with_reducible refine (HL.out).mono ?_
  rintro e w2 ⟨rfl, ⟨ring2, e2⟩, hf2⟩
  have k0 := cap_ld K0.out A0.out hf2
  have k1 := cap_ld K1.out A1.out hf2
  have k2 := cap_ld K2.out A2.out hf2
  have n0 := k0.cell 0 _ rfl
  have m0 := k0.lt
  have n1 := k1.cell 0 _ rfl
  have m1 := k1.lt
  have n2 := k2.cell 0 _ rfl
  have m2 := k2.lt
  have HM := Lib.hid (HMM.out w2 (fun p hp => e2.qlt hp))
  have KR2 := Lib.hid (KR.out.off (hf2.mono (S' := [b, bw]) (by simp)) HRB.out)
  have HE2 := Lib.hid e2
  have HF2 := Lib.hid hf2
  clear k0 k1 k2 e2 hf2 HMM
  go_wp2_with fail
  with_reducible refine (HM.out).mono ?_
  rintro e w3 ⟨f, rfl, ⟨hcl, K, cs, rfl⟩, hb3⟩
  have HG := Lib.hid (goOn_any w3 K #[] cs)
  have KR3 := Lib.hid (KR2.out.below hb3)
  have HC3 := Lib.hid hcl
  have HB3 := Lib.hid hb3
  clear hcl hb3 HM
  go_wp2_with fail
  with_reducible refine (HG.out).mono ?_
  rintro e w4 ⟨rfl, hb4⟩
  have kr4 := KR3.out.below hb4
  have z0 := kr4.cell 0 _ rfl
  have z1 := kr4.cell 1 _ rfl
  have z2 := kr4.cell 2 _ rfl
  have z3 := kr4.cell 3 _ rfl
  have y0 := kr4.froz 0 (by simp)
  have y1 := kr4.froz 1 (by simp)
  have y2 := kr4.froz 2 (by simp)
  have y3 := kr4.froz 3 (by simp)
  have zl := kr4.lt
  have KRL := Lib.hid kr4
  have HB4 := Lib.hid hb4
  clear hb4 kr4 HG
  have e5 := (HE2.out.below HB3.out).below HB4.out
  have hc5 := HC3.out.off (Off.of_below (S := []) HB4.out) (by simp)
  have hfr := (((FrX.of_below HB0.out).trans (H.out.fr1b HF2.out)).trans (FrX.of_below HB3.out)).trans (FrX.of_below (B := B) (X := X) HB4.out)
  go_wp2
  have kf := KRL.out.put4 (.bool false) (.int .i64 0) (.int .i64 0) (.slice none 0 0)
  have q0 := kf.cell 0 _ rfl
  have q1 := kf.cell 1 _ rfl
  have q2 := kf.cell 2 _ rfl
  have q3 := kf.cell 3 _ rfl
  refine bodyPost_ret (v := .tuple #[.agg #[.bool false, .int .i64 0, .int .i64 0, .slice none 0 0], .func (.func K) #[] cs]) ?_ ?_ (ClR.fin (q := noEq) H.out.le_ H.out.hX e5 hc5 hfr _ _ _ _ rfl rfl)
  · simp [results, Try.results124, go_sem, q0, q1, q2, q3]
  · rfl

set_option maxHeartbeats 6400000 in
theorem cl_confirm_ok (h : EpR w B x b bw wb W X k s fv rA rc ring) (hk : k < 9223372036854775807) (i : Nat) (hi : i < W) (e : Nat) (he : e < 9223372036854775807) (hE : s.E = e) (p0 : Nat) (p1 : Nat) (p2 : Nat) (h0 : BlkL w p0 [PV x]) (h1 : BlkL w p1 [IV i]) (h2 : BlkL w p2 [UV e]) (a0 : ¬ QE x b bw wb W X rA p0) (a1 : ¬ QE x b bw wb W X rA p1) (a2 : ¬ QE x b bw wb W X rA p2) :
    Calls Try.prog 124 #[PV p0, PV p1, PV p2] w (ClR w B x b bw wb W X k fv i ⟨okEq e, s.setK i { s.wk i with pin := e + 1 }, .none⟩) := by
  have hb0 : Below w.heap.size w (w.alloc RB) := ((Below.refl w.heap.size w).alloc (Nat.le_refl _) _)
  have e0 := h.reX (X' := w.heap.size :: X) hb0 (fun y hy => by rcases List.mem_cons.1 hy with e | e; exact .inr ⟨by omega, by rw [e]; simp⟩; exact .inl e)
  have K0 := Lib.hid (h0.below hb0)
  have g0 := h0.cell 0 _ rfl
  have l0 := h0.lt
  have A0 := Lib.hid a0
  have K1 := Lib.hid (h1.below hb0)
  have g1 := h1.cell 0 _ rfl
  have l1 := h1.lt
  have A1 := Lib.hid a1
  have K2 := Lib.hid (h2.below hb0)
  have g2 := h2.cell 0 _ rfl
  have l2 := h2.lt
  have A2 := Lib.hid a2
  have KR := Lib.hid (BlkL.new w [.bool false, .int .i64 0, .int .i64 0, .slice none 0 0] 37)
  have hrb : w.heap.size ∉ [b, bw] := by have := h.lts; simp; omega
  have HRB := Lib.hid hrb
  have HB0 := Lib.hid hb0
  have H := Lib.hid h
  have HL := Lib.hid (load0_any e0 hk i hi)
  rw [hE] at HL
  have ew : IntKind.u64.wrap ((e : Int) + 1) = (e : Int) + 1 := IntWalk.u64_in _ (by omega)
  have ew2 : IntKind.i64.wrap (e : Int) = (e : Int) := IntWalk.i64_in _ (by omega)
  have j0 : (0 : Int) ≤ (i : Int) := by omega
  have j1 : (i : Int) < (W : Int) := by omega
  clear h hb0 hrb h0 a0 h1 a1 h2 a2 e0 hE
  go_enter Try.func124, Try.ntmps124
  go_wp2_with fail
  with_reducible refine (HL.out).mono ?_
  rintro e w2 ⟨rfl, ⟨ring2, e2⟩, hf2⟩
  have k0 := cap_ld K0.out A0.out hf2
  have k1 := cap_ld K1.out A1.out hf2
  have k2 := cap_ld K2.out A2.out hf2
  have n0 := k0.cell 0 _ rfl
  have m0 := k0.lt
  have n1 := k1.cell 0 _ rfl
  have m1 := k1.lt
  have n2 := k2.cell 0 _ rfl
  have m2 := k2.lt
  have c1 := e2.c1
  have u1 := e2.k1 hi
  have f1 := e2.fr (i := i * 3 + 1) (by omega)
  have lw := e2.lts.2.2.2
  have lx := e2.lts.1
  have d0 := (QE.no A0.out).2.2.2.1
  have d1 := (QE.no A1.out).2.2.2.1
  have d2 := (QE.no A2.out).2.2.2.1
  have dx := e2.nx.2.2.1
  have KR2 := Lib.hid (KR.out.off (hf2.mono (S' := [b, bw]) (by simp)) HRB.out)
  have HE2 := Lib.hid e2
  have HF2 := Lib.hid hf2
  clear k0 k1 k2 e2 hf2 HL
  go_wp2_with fail
  go_region
  have e3 := (HE2.out.below (Below.refl _ _).drew).setPin hi (e + 1)
  have hw3 : Off [wb] w2 (w2.drew.setCell ⟨wb, i * 3 + 1, none⟩ (.int .u64 ((e : Int) + 1))) := ((Off.refl _ _).drew).setCell (p := ⟨wb, i * 3 + 1, none⟩) (by simp) _
  have hrw : w.heap.size ∉ [wb] := by have := H.out.lts; simp; omega
  have KR3 := Lib.hid (KR2.out.off hw3 hrw)
  have HE3 : Hid (EpR (w2.drew.setCell ⟨wb, i * 3 + 1, none⟩ (.int .u64 ((e : Int) + 1))) _ _ _ _ _ _ _ _ _ _ _ _ _) := Lib.hid e3
  have HF3 := Lib.hid hw3
  clear e3 hw3 hrw KR2
  go_wp2_with fail
  with_reducible refine (done13_any _ _).mono ?_
  rintro e w4 ⟨rfl, hb4⟩
  have kr4 := KR3.out.below hb4
  have z0 := kr4.cell 0 _ rfl
  have z1 := kr4.cell 1 _ rfl
  have z2 := kr4.cell 2 _ rfl
  have z3 := kr4.cell 3 _ rfl
  have y0 := kr4.froz 0 (by simp)
  have y1 := kr4.froz 1 (by simp)
  have y2 := kr4.froz 2 (by simp)
  have y3 := kr4.froz 3 (by simp)
  have zl := kr4.lt
  have KRL := Lib.hid kr4
  have HB4 := Lib.hid hb4
  clear hb4 kr4
  have e5 := HE3.out.below HB4.out
  have hc5 : ClV w4 (QE x b bw wb W (w.heap.size :: X) rA) (capsE x i .none) .nilFunc := rfl
  have hfr := (((FrX.of_below HB0.out).trans (H.out.fr1b HF2.out)).trans (H.out.frwb HF3.out)).trans (FrX.of_below (B := B) (X := X) HB4.out)
  go_wp2
  have kf := KRL.out.put4 (.bool true) (.int .i64 0) (.int .i64 (e : Int)) (.slice none 0 0)
  have q0 := kf.cell 0 _ rfl
  have q1 := kf.cell 1 _ rfl
  have q2 := kf.cell 2 _ rfl
  have q3 := kf.cell 3 _ rfl
  refine bodyPost_ret (v := .tuple #[.agg #[.bool true, .int .i64 0, .int .i64 (e : Int), .slice none 0 0], .nilFunc]) ?_ ?_ (ClR.fin (q := okEq e) H.out.le_ H.out.hX e5 hc5 hfr _ _ _ _ rfl rfl)
  · simp [results, Try.results124, go_sem, q0, q1, q2, q3]
  · rfl

set_option maxHeartbeats 6400000 in
theorem cl_unpin (h : EpR w B x b bw wb W X k s fv rA rc ring) (hk : k < 9223372036854775807) (i : Nat) (hi : i < W) (s' : EpV) (hs : (if s.P i = (s.wk i).pin then s.setW (i + 1) 0 else s) = s') (p0 : Nat) (p1 : Nat) (h0 : BlkL w p0 [PV x]) (h1 : BlkL w p1 [IV i]) (a0 : ¬ QE x b bw wb W X rA p0) (a1 : ¬ QE x b bw wb W X rA p1) :
    Calls Try.prog 100 #[PV p0, PV p1] w (ClR w B x b bw wb W X k fv i ⟨okEq 0, s'.setK i { s'.wk i with pin := 0 }, .none⟩) := by
  have hb0 : Below w.heap.size w (w.alloc RB).drew := ((Below.refl w.heap.size w).alloc (Nat.le_refl _) _).drew
  have e0 := h.reX (X' := w.heap.size :: X) hb0 (fun y hy => by rcases List.mem_cons.1 hy with e | e; exact .inr ⟨by omega, by rw [e]; simp⟩; exact .inl e)
  have K0 := Lib.hid (h0.below hb0)
  have g0 := h0.cell 0 _ rfl
  have l0 := h0.lt
  have A0 := Lib.hid a0
  have K1 := Lib.hid (h1.below hb0)
  have g1 := h1.cell 0 _ rfl
  have l1 := h1.lt
  have A1 := Lib.hid a1
  have KR := Lib.hid (BlkL.new w [.bool false, .int .i64 0, .int .i64 0, .slice none 0 0] 37).drew
  have hrb : w.heap.size ∉ [b, bw] := by have := h.lts; simp; omega
  have HRB := Lib.hid hrb
  have HB0 := Lib.hid hb0
  have H := Lib.hid h
  have HO := Lib.hid (wordOf_any (w.alloc RB).drew i (by have := e0.w64; omega))
  have hl : Calls Try.prog 101 #[PV x, IV i, IV (i + 1), UV (s.wk i).pin, .int .u64 0] (w.alloc RB).drew _ := swap_any e0 hk i (i + 1) (s.wk i).pin 0 hi (by omega) _ rfl s' hs
  have HL := Lib.hid hl
  have j0 : (0 : Int) ≤ (i : Int) := by omega
  have j1 : (i : Int) < (W : Int) := by omega
  have c1 := h.c1
  have u1 := h.k1 hi
  have lw := h.lts.2.2.2
  have lx := h.lts.1
  have nx1 := h.nx.1
  have nx2 := h.nx.2.1
  have nx3 := h.nx.2.2.1
  have nx4 := h.nx.2.2.2.1
  have nx5 := h.nx.2.2.2.2
  clear h hb0 hrb h0 a0 h1 a1 e0 hs hl
  go_enter Try.func100, Try.ntmps100
  go_wp2_with fail
  go_region_held3 (fun w' => w'.cell? ⟨p0, 0, none⟩ = some (PV x) ∧ w'.cell? ⟨p1, 0, none⟩ = some (IV i) ∧ w'.cell? ⟨x, 1, none⟩ = some (.slice (some ⟨wb, 0, none⟩) W W) ∧ w'.cell? ⟨wb, i * 3 + 1, none⟩ = some (UV (s.wk i).pin)) (go_keep)
    (first
    | ((with_reducible refine (HO.out).mono ?_); rintro e w1 ⟨rfl, hw⟩; subst hw)
    | ((with_reducible refine (HL.out).mono ?_); rintro e w2 ⟨rfl, ⟨ring2, e2⟩, hf2⟩; have k0 := cap_sw K0.out A0.out hf2; have k1 := cap_sw K1.out A1.out hf2; have n0 := k0.cell 0 _ rfl; have m0 := k0.lt; have n1 := k1.cell 0 _ rfl; have m1 := k1.lt; have c1 := e2.c1; have lw2 := e2.lts.2.2.2; have lx2 := e2.lts.1; have f1 := e2.fr (i := i * 3 + 1) (by omega); have HKP := (hf2.cell (p := ⟨wb, i * 3 + 1, none⟩) (by simp; omega) (by simp [nx4, nx5])).trans ((World.cell?_alloc_lt w RB ⟨wb, i * 3 + 1, none⟩ lw).trans u1); have KR2 := Lib.hid (KR.out.off hf2 HRB.out); have HE2 := Lib.hid e2; have HF2 := Lib.hid hf2; clear k0 k1 e2 hf2))
  clear HL HO u1 g0 g1 K0 K1
  go_wp2_with fail
  go_region
  have e3 := (HE2.out.below (Below.refl _ _).drew).setPin hi (0)
  have hw3 : Off [wb] w2 (w2.drew.setCell ⟨wb, i * 3 + 1, none⟩ (.int .u64 0)) := ((Off.refl _ _).drew).setCell (p := ⟨wb, i * 3 + 1, none⟩) (by simp) _
  have hrw : w.heap.size ∉ [wb] := by have := H.out.lts; simp; omega
  have KR3 := Lib.hid (KR2.out.off hw3 hrw)
  have HE3 : Hid (EpR (w2.drew.setCell ⟨wb, i * 3 + 1, none⟩ (.int .u64 0)) _ _ _ _ _ _ _ _ _ _ _ _ _) := Lib.hid e3
  have HF3 := Lib.hid hw3
  clear e3 hw3 hrw KR2
  go_wp2_with fail
  with_reducible refine (done13_any _ _).mono ?_
  rintro e w4 ⟨rfl, hb4⟩
  have kr4 := KR3.out.below hb4
  have z0 := kr4.cell 0 _ rfl
  have z1 := kr4.cell 1 _ rfl
  have z2 := kr4.cell 2 _ rfl
  have z3 := kr4.cell 3 _ rfl
  have y0 := kr4.froz 0 (by simp)
  have y1 := kr4.froz 1 (by simp)
  have y2 := kr4.froz 2 (by simp)
  have y3 := kr4.froz 3 (by simp)
  have zl := kr4.lt
  have KRL := Lib.hid kr4
  have HB4 := Lib.hid hb4
  clear hb4 kr4
  have e5 := HE3.out.below HB4.out
  have hc5 : ClV w4 (QE x b bw wb W (w.heap.size :: X) rA) (capsE x i .none) .nilFunc := rfl
  have hfr := (((FrX.of_below HB0.out).trans (H.out.fr2b HF2.out)).trans (H.out.frwb HF3.out)).trans (FrX.of_below (B := B) (X := X) HB4.out)
  go_wp2
  have kf := KRL.out.put4 (.bool true) (.int .i64 0) (.int .i64 0) (.slice none 0 0)
  have q0 := kf.cell 0 _ rfl
  have q1 := kf.cell 1 _ rfl
  have q2 := kf.cell 2 _ rfl
  have q3 := kf.cell 3 _ rfl
  refine bodyPost_ret (v := .tuple #[.agg #[.bool true, .int .i64 0, .int .i64 0, .slice none 0 0], .nilFunc]) ?_ ?_ (ClR.fin (q := okEq 0) H.out.le_ H.out.hX e5 hc5 hfr _ _ _ _ rfl rfl)
  · simp [results, Try.results100, go_sem, q0, q1, q2, q3]
  · rfl

end
end Go.Proofs.Ytpjgpiiibgogeaa
