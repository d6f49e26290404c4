/- An Epochs: the function values of a pending Advance. -/
import Derived.Test.YtpjgpiiibgogeaaEpG
namespace Go.Proofs.Ytpjgpiiibgogeaa
open Go.RowKit
set_option maxRecDepth 100000
set_option linter.unusedVariables false

section
variable {w w' : World} {B x b bw wb W : Nat} {X : List Nat} {k : Nat} {s : EpV} {fv : Nat → Value} {rA : Nat → Option Addr} {rc : Nat → Nat} {ring : List Value} {p : Nat} {v : Value}
set_option maxHeartbeats 6400000 in
theorem cl_move_ok (h : EpR w B x b bw wb W X k s fv rA rc ring) (hk : k < 9223372036854775807) (i : Nat) (hi : i < W) (e : Nat) (he : e < 9223372036854775806) (hE : s.E = e) (p0 : Nat) (p1 : Nat) (p2 : Nat) (h0 : BlkL w p0 [PV x]) (h1 : BlkL w p1 [IV i]) (h2 : BlkL w p2 [UV e]) (a0 : ¬ QE x b bw wb W X rA p0) (a1 : ¬ QE x b bw wb W X rA p1) (a2 : ¬ QE x b bw wb W X rA p2) :
    Calls Try.prog 125 #[PV p0, PV p1, PV p2] w (ClR w B x b bw wb W X k fv i ⟨okEq ((e : Int) + 1), s.setW 0 (e + 1), .none⟩) := by
  have hb0 : Below w.heap.size w (w.alloc RB) := ((Below.refl w.heap.size w).alloc (Nat.le_refl _) _)
  have e0 := h.reX (X' := w.heap.size :: X) hb0 (fun y hy => by rcases List.mem_cons.1 hy with e | e; exact .inr ⟨by omega, by rw [e]; simp⟩; exact .inl e)
  have K0 := Lib.hid (h0.below hb0)
  have g0 := h0.cell 0 _ rfl
  have l0 := h0.lt
  have A0 := Lib.hid a0
  have K1 := Lib.hid (h1.below hb0)
  have g1 := h1.cell 0 _ rfl
  have l1 := h1.lt
  have A1 := Lib.hid a1
  have K2 := Lib.hid (h2.below hb0)
  have g2 := h2.cell 0 _ rfl
  have l2 := h2.lt
  have A2 := Lib.hid a2
  have KR := Lib.hid (BlkL.new w [.bool false, .int .i64 0, .int .i64 0, .slice none 0 0] 37)
  have hrb : w.heap.size ∉ [b, bw] := by have := h.lts; simp; omega
  have HRB := Lib.hid hrb
  have HB0 := Lib.hid hb0
  have H := Lib.hid h
  have hE1 : s.ws.getD 0 0 = e := hE
  have hl : Calls Try.prog 101 #[PV x, IV i, .int .i64 0, UV e, .int .u64 ((e : Int) + 1)] (w.alloc RB) _ := swap_any e0 hk i 0 e (e + 1) hi (by omega) true (decide_eq_true hE1) (s.setW 0 (e + 1)) (if_pos hE1)
  have HL := Lib.hid hl
  have ew : IntKind.u64.wrap ((e : Int) + 1) = (e : Int) + 1 := IntWalk.u64_in _ (by omega)
  have ew2 : IntKind.i64.wrap ((e : Int) + 1) = (e : Int) + 1 := IntWalk.i64_in _ (by omega)
  clear h hb0 hrb h0 a0 h1 a1 h2 a2 e0 hE hE1 hl
  go_enter Try.func125, Try.ntmps125
  go_wp2_with fail
  with_reducible refine (HL.out).mono ?_
  rintro e w2 ⟨rfl, ⟨ring2, e2⟩, hf2⟩
  have k0 := cap_sw K0.out A0.out hf2
  have k1 := cap_sw K1.out A1.out hf2
  have k2 := cap_sw K2.out A2.out hf2
  have n0 := k0.cell 0 _ rfl
  have m0 := k0.lt
  have n1 := k1.cell 0 _ rfl
  have m1 := k1.lt
  have n2 := k2.cell 0 _ rfl
  have m2 := k2.lt
  have KR2 := Lib.hid (KR.out.off hf2 HRB.out)
  have HE2 := Lib.hid e2
  have HF2 := Lib.hid hf2
  clear k0 k1 k2 e2 hf2 HL K0 K1 K2
  go_wp2_with fail
  with_reducible refine (done13_any _ _).mono ?_
  rintro e w4 ⟨rfl, hb4⟩
  have kr4 := KR2.out.below hb4
  have z0 := kr4.cell 0 _ rfl
  have z1 := kr4.cell 1 _ rfl
  have z2 := kr4.cell 2 _ rfl
  have z3 := kr4.cell 3 _ rfl
  have y0 := kr4.froz 0 (by simp)
  have y1 := kr4.froz 1 (by simp)
  have y2 := kr4.froz 2 (by simp)
  have y3 := kr4.froz 3 (by simp)
  have zl := kr4.lt
  have KRL := Lib.hid kr4
  have HB4 := Lib.hid hb4
  clear hb4 kr4
  have e5 := HE2.out.below HB4.out
  have hc5 : ClV w4 (QE x b bw wb W (w.heap.size :: X) rA) (capsE x i .none) .nilFunc := rfl
  have hfr := ((FrX.of_below HB0.out).trans (H.out.fr2b HF2.out)).trans (FrX.of_below (B := B) (X := X) HB4.out)
  go_wp2
  have kf := KRL.out.put4 (.bool true) (.int .i64 0) (.int .i64 ((e : Int) + 1)) (.slice none 0 0)
  have q0 := kf.cell 0 _ rfl
  have q1 := kf.cell 1 _ rfl
  have q2 := kf.cell 2 _ rfl
  have q3 := kf.cell 3 _ rfl
  refine bodyPost_ret (v := .tuple #[.agg #[.bool true, .int .i64 0, .int .i64 ((e : Int) + 1), .slice none 0 0], .nilFunc]) ?_ ?_ (ClR.fin (q := okEq ((e : Int) + 1)) H.out.le_ H.out.hX e5 hc5 hfr _ _ _ _ rfl rfl)
  · simp [results, Try.results125, go_sem, q0, q1, q2, q3]
  · rfl

set_option maxHeartbeats 6400000 in
theorem cl_move_no (h : EpR w B x b bw wb W X k s fv rA rc ring) (hk : k < 9223372036854775807) (i : Nat) (hi : i < W) (e : Nat) (he : e < 9223372036854775806) (hE : s.E ≠ e) (p0 : Nat) (p1 : Nat) (p2 : Nat) (h0 : BlkL w p0 [PV x]) (h1 : BlkL w p1 [IV i]) (h2 : BlkL w p2 [UV e]) (a0 : ¬ QE x b bw wb W X rA p0) (a1 : ¬ QE x b bw wb W X rA p1) (a2 : ¬ QE x b bw wb W X rA p2) :
    Calls Try.prog 125 #[PV p0, PV p1, PV p2] w (ClR w B x b bw wb W X k fv i ⟨okEq 0, s, .none⟩) := by
  have hb0 : Below w.heap.size w (w.alloc RB) := ((Below.refl w.heap.size w).alloc (Nat.le_refl _) _)
  have e0 := h.reX (X' := w.heap.size :: X) hb0 (fun y hy => by rcases List.mem_cons.1 hy with e | e; exact .inr ⟨by omega, by rw [e]; simp⟩; exact .inl e)
  have K0 := Lib.hid (h0.below hb0)
  have g0 := h0.cell 0 _ rfl
  have l0 := h0.lt
  have A0 := Lib.hid a0
  have K1 := Lib.hid (h1.below hb0)
  have g1 := h1.cell 0 _ rfl
  have l1 := h1.lt
  have A1 := Lib.hid a1
  have K2 := Lib.hid (h2.below hb0)
  have g2 := h2.cell 0 _ rfl
  have l2 := h2.lt
  have A2 := Lib.hid a2
  have KR := Lib.hid (BlkL.new w [.bool false, .int .i64 0, .int .i64 0, .slice none 0 0] 37)
  have hrb : w.heap.size ∉ [b, bw] := by have := h.lts; simp; omega
  have HRB := Lib.hid hrb
  have HB0 := Lib.hid hb0
  have H := Lib.hid h
  have hE1 : s.ws.getD 0 0 ≠ e := hE
  have hl : Calls Try.prog 101 #[PV x, IV i, .int .i64 0, UV e, .int .u64 ((e : Int) + 1)] (w.alloc RB) _ := swap_any e0 hk i 0 e (e + 1) hi (by omega) false (decide_eq_false hE1) s (if_neg hE1)
  have HL := Lib.hid hl
  have ew : IntKind.u64.wrap ((e : Int) + 1) = (e : Int) + 1 := IntWalk.u64_in _ (by omega)
  have ew2 : IntKind.i64.wrap ((e : Int) + 1) = (e : Int) + 1 := IntWalk.i64_in _ (by omega)
  clear h hb0 hrb h0 a0 h1 a1 h2 a2 e0 hE hE1 hl
  go_enter Try.func125, Try.ntmps125
  go_wp2_with fail
  with_reducible refine (HL.out).mono ?_
  rintro e w2 ⟨rfl, ⟨ring2, e2⟩, hf2⟩
  have k0 := cap_sw K0.out A0.out hf2
  have k1 := cap_sw K1.out A1.out hf2
  have k2 := cap_sw K2.out A2.out hf2
  have n0 := k0.cell 0 _ rfl
  have m0 := k0.lt
  have n1 := k1.cell 0 _ rfl
  have m1 := k1.lt
  have n2 := k2.cell 0 _ rfl
  have m2 := k2.lt
  have KR2 := Lib.hid (KR.out.off hf2 HRB.out)
  have HE2 := Lib.hid e2
  have HF2 := Lib.hid hf2
  clear k0 k1 k2 e2 hf2 HL K0 K1 K2
  go_wp2_with fail
  with_reducible refine (done13_any _ _).mono ?_
  rintro e w4 ⟨rfl, hb4⟩
  have kr4 := KR2.out.below hb4
  have z0 := kr4.cell 0 _ rfl
  have z1 := kr4.cell 1 _ rfl
  have z2 := kr4.cell 2 _ rfl
  have z3 := kr4.cell 3 _ rfl
  have y0 := kr4.froz 0 (by simp)
  have y1 := kr4.froz 1 (by simp)
  have y2 := kr4.froz 2 (by simp)
  have y3 := kr4.froz 3 (by simp)
  have zl := kr4.lt
  have KRL := Lib.hid kr4
  have HB4 := Lib.hid hb4
  clear hb4 kr4
  have e5 := HE2.out.below HB4.out
  have hc5 : ClV w4 (QE x b bw wb W (w.heap.size :: X) rA) (capsE x i .none) .nilFunc := rfl
  have hfr := ((FrX.of_below HB0.out).trans (H.out.fr2b HF2.out)).trans (FrX.of_below (B := B) (X := X) HB4.out)
  go_wp2
  have kf := KRL.out.put4 (.bool true) (.int .i64 0) (.int .i64 0) (.slice none 0 0)
  have q0 := kf.cell 0 _ rfl
  have q1 := kf.cell 1 _ rfl
  have q2 := kf.cell 2 _ rfl
  have q3 := kf.cell 3 _ rfl
  refine bodyPost_ret (v := .tuple #[.agg #[.bool true, .int .i64 0, .int .i64 0, .slice none 0 0], .nilFunc]) ?_ ?_ (ClR.fin (q := okEq 0) H.out.le_ H.out.hX e5 hc5 hfr _ _ _ _ rfl rfl)
  · simp [results, Try.results125, go_sem, q0, q1, q2, q3]
  · rfl

set_option maxHeartbeats 6400000 in
theorem cl_look_busy (h : EpR w B x b bw wb W X k s fv rA rc ring) (hk : k < 9223372036854775807) (i : Nat) (hi : i < W) (j e : Nat) (hj : j < W) (he : e < 9223372036854775806) (hv : s.P j ≠ 0 ∧ s.P j ≠ e + 1) (p0 : Nat) (p1 : Nat) (p2 : Nat) (p3 : Nat) (h0 : BlkL w p0 [PV x]) (h1 : BlkL w p1 [IV i]) (h2 : BlkL w p2 [IV j]) (h3 : BlkL w p3 [UV e]) (a0 : ¬ QE x b bw wb W X rA p0) (a1 : ¬ QE x b bw wb W X rA p1) (a2 : ¬ QE x b bw wb W X rA p2) (a3 : ¬ QE x b bw wb W X rA p3) :
    Calls Try.prog 117 #[PV p0, PV p1, PV p2, PV p3] w (ClR w B x b bw wb W X k fv i ⟨⟨true, 9, 0, []⟩, s, .none⟩) := by
  have hb0 : Below w.heap.size w (w.alloc RB).drew := ((Below.refl w.heap.size w).alloc (Nat.le_refl _) _).drew
  have e0 := h.reX (X' := w.heap.size :: X) hb0 (fun y hy => by rcases List.mem_cons.1 hy with e | e; exact .inr ⟨by omega, by rw [e]; simp⟩; exact .inl e)
  have K0 := Lib.hid (h0.below hb0)
  have g0 := h0.cell 0 _ rfl
  have l0 := h0.lt
  have A0 := Lib.hid a0
  have K1 := Lib.hid (h1.below hb0)
  have g1 := h1.cell 0 _ rfl
  have l1 := h1.lt
  have A1 := Lib.hid a1
  have K2 := Lib.hid (h2.below hb0)
  have g2 := h2.cell 0 _ rfl
  have l2 := h2.lt
  have A2 := Lib.hid a2
  have K3 := Lib.hid (h3.below hb0)
  have g3 := h3.cell 0 _ rfl
  have l3 := h3.lt
  have A3 := Lib.hid a3
  have KR := Lib.hid (BlkL.new w [.bool false, .int .i64 0, .int .i64 0, .slice none 0 0] 37).drew
  have hrb : w.heap.size ∉ [b, bw] := by have := h.lts; simp; omega
  have HRB := Lib.hid hrb
  have HB0 := Lib.hid hb0
  have H := Lib.hid h
  have h64 := h.w64
  have HO := Lib.hid (wordOf_any (w.alloc RB).drew j (by omega))
  have hl := load_any e0 hk i (j + 1) hi (by omega)
  unfold EpV.P at hv
  generalize s.ws.getD (j + 1) 0 = pv at hl hv
  have HL := Lib.hid hl
  have ew : IntKind.u64.wrap ((e : Int) + 1) = (e : Int) + 1 := IntWalk.u64_in _ (by omega)
  have ej : IntKind.i64.wrap ((j : Int) + 1) = (j : Int) + 1 := IntWalk.i64_in _ (by omega)
  have v0 : ((pv : Int) != 0) = true := by simp; omega
  have v1 : ((pv : Int) != (e : Int) + 1) = true := by simp; omega
  clear h hb0 hrb h0 a0 h1 a1 h2 a2 h3 a3 e0 hl
  go_enter Try.func117, Try.ntmps117
  go_wp2_with fail
  go_region_held3 (fun w' => w'.cell? ⟨p0, 0, none⟩ = some (PV x) ∧ w'.cell? ⟨p1, 0, none⟩ = some (IV i) ∧ w'.cell? ⟨p2, 0, none⟩ = some (IV j) ∧ w'.cell? ⟨p3, 0, none⟩ = some (UV e)) (go_keep)
    (first
    | ((with_reducible refine (HO.out).mono ?_); rintro e w1 ⟨rfl, hw⟩; subst hw)
    | ((with_reducible refine (HL.out).mono ?_); rintro e w2 ⟨rfl, ⟨ring2, e2⟩, hf2⟩; have k0 := cap_ld K0.out A0.out hf2; have k1 := cap_ld K1.out A1.out hf2; have k2 := cap_ld K2.out A2.out hf2; have k3 := cap_ld K3.out A3.out hf2; have n0 := k0.cell 0 _ rfl; have m0 := k0.lt; have n1 := k1.cell 0 _ rfl; have m1 := k1.lt; have n2 := k2.cell 0 _ rfl; have m2 := k2.lt; have n3 := k3.cell 0 _ rfl; have m3 := k3.lt; have kr2 := KR.out.off (hf2.mono (S' := [b, bw]) (by simp)) HRB.out; have KR2 := Lib.hid kr2; have K2' := Lib.hid (And.intro k0 (And.intro k1 (And.intro k2 k3))); have HE2 := Lib.hid e2; have HF2 := Lib.hid hf2; clear k0 k1 k2 k3 e2 hf2 kr2))
  clear HL HO g0 g1 g2 g3 K0 K1 K2 K3 l0 l1 l2 l3
  have kr2 := KR2.out
  have z0 := kr2.cell 0 _ rfl
  have z1 := kr2.cell 1 _ rfl
  have z2 := kr2.cell 2 _ rfl
  have z3 := kr2.cell 3 _ rfl
  have y0 := kr2.froz 0 (by simp)
  have y1 := kr2.froz 1 (by simp)
  have y2 := kr2.froz 2 (by simp)
  have y3 := kr2.froz 3 (by simp)
  have zl := kr2.lt
  clear kr2
  have KRL := KR2
  have e5 := HE2.out
  have hc5 : ClV w2 (QE x b bw wb W (w.heap.size :: X) rA) (capsE x i .none) .nilFunc := rfl
  have hfr := (FrX.of_below HB0.out).trans (H.out.fr1b HF2.out)
  have HH := Lib.hid (And.intro e5 hfr)
  clear e5 hfr
  go_wp2
  obtain ⟨e5, hfr⟩ := HH.out
  have kf := KRL.out.put4 (.bool true) (.int .i64 9) (.int .i64 0) (.slice none 0 0)
  have q0 := kf.cell 0 _ rfl
  have q1 := kf.cell 1 _ rfl
  have q2 := kf.cell 2 _ rfl
  have q3 := kf.cell 3 _ rfl
  refine bodyPost_ret (v := .tuple #[.agg #[.bool true, .int .i64 9, .int .i64 0, .slice none 0 0], .nilFunc]) ?_ ?_ (ClR.fin (q := ⟨true, 9, 0, []⟩) H.out.le_ H.out.hX e5 hc5 hfr _ _ _ _ rfl rfl)
  · simp [results, Try.results117, go_sem, q0, q1, q2, q3]
  · rfl

set_option maxHeartbeats 6400000 in
theorem cl_look_on (h : EpR w B x b bw wb W X k s fv rA rc ring) (hk : k < 9223372036854775807) (i : Nat) (hi : i < W) (j e : Nat) (hj : j < W) (he : e < 9223372036854775806) (hv : ¬ (s.P j ≠ 0 ∧ s.P j ≠ e + 1)) (hj2 : j + 1 < W) (p0 : Nat) (p1 : Nat) (p2 : Nat) (p3 : Nat) (h0 : BlkL w p0 [PV x]) (h1 : BlkL w p1 [IV i]) (h2 : BlkL w p2 [IV j]) (h3 : BlkL w p3 [UV e]) (a0 : ¬ QE x b bw wb W X rA p0) (a1 : ¬ QE x b bw wb W X rA p1) (a2 : ¬ QE x b bw wb W X rA p2) (a3 : ¬ QE x b bw wb W X rA p3) :
    Calls Try.prog 117 #[PV p0, PV p1, PV p2, PV p3] w (ClR w B x b bw wb W X k fv i ⟨noEq, s, .look (j + 1) e⟩) := by
  have hb0 : Below w.heap.size w (w.alloc RB).drew := ((Below.refl w.heap.size w).alloc (Nat.le_refl _) _).drew
  have e0 := h.reX (X' := w.heap.size :: X) hb0 (fun y hy => by rcases List.mem_cons.1 hy with e | e; exact .inr ⟨by omega, by rw [e]; simp⟩; exact .inl e)
  have K0 := Lib.hid (h0.below hb0)
  have g0 := h0.cell 0 _ rfl
  have l0 := h0.lt
  have A0 := Lib.hid a0
  have K1 := Lib.hid (h1.below hb0)
  have g1 := h1.cell 0 _ rfl
  have l1 := h1.lt
  have A1 := Lib.hid a1
  have K2 := Lib.hid (h2.below hb0)
  have g2 := h2.cell 0 _ rfl
  have l2 := h2.lt
  have A2 := Lib.hid a2
  have K3 := Lib.hid (h3.below hb0)
  have g3 := h3.cell 0 _ rfl
  have l3 := h3.lt
  have A3 := Lib.hid a3
  have KR := Lib.hid (BlkL.new w [.bool false, .int .i64 0, .int .i64 0, .slice none 0 0] 37).drew
  have hrb : w.heap.size ∉ [b, bw] := by have := h.lts; simp; omega
  have HRB := Lib.hid hrb
  have HB0 := Lib.hid hb0
  have H := Lib.hid h
  have h64 := h.w64
  have HO := Lib.hid (wordOf_any (w.alloc RB).drew j (by omega))
  have hl := load_any e0 hk i (j + 1) hi (by omega)
  unfold EpV.P at hv
  generalize s.ws.getD (j + 1) 0 = pv at hl hv
  have HL := Lib.hid hl
  have ew : IntKind.u64.wrap ((e : Int) + 1) = (e : Int) + 1 := IntWalk.u64_in _ (by omega)
  have ej : IntKind.i64.wrap ((j : Int) + 1) = (j : Int) + 1 := IntWalk.i64_in _ (by omega)
  have j2 : (j : Int) + 1 < (W : Int) := by omega
  have HMM := Lib.hid (fun w2 (hQ : ∀ p, QE x b bw wb W (w.heap.size :: X) rA p → p < w2.heap.size) => (show Calls Try.prog 105 #[PV x, IV i, .int .i64 ((j : Int) + 1), UV e] w2 _ from mk_look w2 x i (j + 1) e _ hQ))
  clear h hb0 hrb h0 a0 h1 a1 h2 a2 h3 a3 e0 hl
  go_enter Try.func117, Try.ntmps117
  go_wp2_with fail
  go_region_held3 (fun w' => w'.cell? ⟨p0, 0, none⟩ = some (PV x) ∧ w'.cell? ⟨p1, 0, none⟩ = some (IV i) ∧ w'.cell? ⟨p2, 0, none⟩ = some (IV j) ∧ w'.cell? ⟨p3, 0, none⟩ = some (UV e)) (go_keep)
    (first
    | ((with_reducible refine (HO.out).mono ?_); rintro e w1 ⟨rfl, hw⟩; subst hw)
    | ((with_reducible refine (HL.out).mono ?_); rintro e w2 ⟨rfl, ⟨ring2, e2⟩, hf2⟩; have k0 := cap_ld K0.out A0.out hf2; have k1 := cap_ld K1.out A1.out hf2; have k2 := cap_ld K2.out A2.out hf2; have k3 := cap_ld K3.out A3.out hf2; have n0 := k0.cell 0 _ rfl; have m0 := k0.lt; have n1 := k1.cell 0 _ rfl; have m1 := k1.lt; have n2 := k2.cell 0 _ rfl; have m2 := k2.lt; have n3 := k3.cell 0 _ rfl; have m3 := k3.lt; have kr2 := KR.out.off (hf2.mono (S' := [b, bw]) (by simp)) HRB.out; have KR2 := Lib.hid kr2; have K2' := Lib.hid (And.intro k0 (And.intro k1 (And.intro k2 k3))); have HE2 := Lib.hid e2; have HF2 := Lib.hid hf2; clear k0 k1 k2 k3 e2 hf2 kr2))
  clear HL HO g0 g1 g2 g3 K0 K1 K2 K3 l0 l1 l2 l3
  have c1 := HE2.out.c1
  have lx := HE2.out.lts.1
  rcases (by omega : pv = 0 ∨ (pv ≠ 0 ∧ pv = e + 1)) with v0 | ⟨v0, v1⟩
  · have v0' : (pv : Int) = 0 := by omega
    subst v0
    go_wp2_with fail
    go_region
    have HM := Lib.hid (HMM.out w2.drew (fun p hp => HE2.out.qlt hp))
    clear HMM
    go_wp2_with fail
    with_reducible refine (HM.out).mono ?_
    rintro e w3 ⟨f, rfl, ⟨hcl, K, cs, rfl⟩, hb3⟩
    have HG := Lib.hid (goOn_any w3 K #[] cs)
    have KR3 := Lib.hid (KR2.out.drew.below hb3)
    have HC3 := Lib.hid hcl
    have HB3 := Lib.hid hb3
    clear hcl hb3 HM
    go_wp2_with fail
    with_reducible refine (HG.out).mono ?_
    rintro e w4 ⟨rfl, hb4⟩
    have kr4 := KR3.out.below hb4
    have z0 := kr4.cell 0 _ rfl
    have z1 := kr4.cell 1 _ rfl
    have z2 := kr4.cell 2 _ rfl
    have z3 := kr4.cell 3 _ rfl
    have y0 := kr4.froz 0 (by simp)
    have y1 := kr4.froz 1 (by simp)
    have y2 := kr4.froz 2 (by simp)
    have y3 := kr4.froz 3 (by simp)
    have zl := kr4.lt
    have KRL := Lib.hid kr4
    have HB4 := Lib.hid hb4
    clear hb4 kr4 HG
    have e5 := ((HE2.out.below (w' := w2.drew) (Below.refl _ _).drew).below HB3.out).below HB4.out
    have hc5 := HC3.out.off (Off.of_below (S := []) HB4.out) (by simp)
    have hfr := (((FrX.of_below HB0.out).trans (H.out.fr1b HF2.out.drew)).trans (FrX.of_below HB3.out)).trans (FrX.of_below (B := B) (X := X) HB4.out)
    go_wp2
    have kf := KRL.out.put4 (.bool false) (.int .i64 0) (.int .i64 0) (.slice none 0 0)
    have q0 := kf.cell 0 _ rfl
    have q1 := kf.cell 1 _ rfl
    have q2 := kf.cell 2 _ rfl
    have q3 := kf.cell 3 _ rfl
    refine bodyPost_ret (v := .tuple #[.agg #[.bool false, .int .i64 0, .int .i64 0, .slice none 0 0], .func (.func K) #[] cs]) ?_ ?_ (ClR.fin (q := noEq) H.out.le_ H.out.hX e5 hc5 hfr _ _ _ _ rfl rfl)
    · simp [results, Try.results117, go_sem, q0, q1, q2, q3]
    · rfl
  · have v0' : ¬ (pv : Int) = 0 := by omega
    have v1' : (pv : Int) = (e : Int) + 1 := by omega
    subst v1
    go_wp2_with fail
    go_region
    have HM := Lib.hid (HMM.out w2.drew (fun p hp => HE2.out.qlt hp))
    clear HMM
    go_wp2_with fail
    with_reducible refine (HM.out).mono ?_
    rintro e w3 ⟨f, rfl, ⟨hcl, K, cs, rfl⟩, hb3⟩
    have HG := Lib.hid (goOn_any w3 K #[] cs)
    have KR3 := Lib.hid (KR2.out.drew.below hb3)
    have HC3 := Lib.hid hcl
    have HB3 := Lib.hid hb3
    clear hcl hb3 HM
    go_wp2_with fail
    with_reducible refine (HG.out).mono ?_
    rintro e w4 ⟨rfl, hb4⟩
    have kr4 := KR3.out.below hb4
    have z0 := kr4.cell 0 _ rfl
    have z1 := kr4.cell 1 _ rfl
    have z2 := kr4.cell 2 _ rfl
    have z3 := kr4.cell 3 _ rfl
    have y0 := kr4.froz 0 (by simp)
    have y1 := kr4.froz 1 (by simp)
    have y2 := kr4.froz 2 (by simp)
    have y3 := kr4.froz 3 (by simp)
    have zl := kr4.lt
    have KRL := Lib.hid kr4
    have HB4 := Lib.hid hb4
    clear hb4 kr4 HG
    have e5 := ((HE2.out.below (w' := w2.drew) (Below.refl _ _).drew).below HB3.out).below HB4.out
    have hc5 := HC3.out.off (Off.of_below (S := []) HB4.out) (by simp)
    have hfr := (((FrX.of_below HB0.out).trans (H.out.fr1b HF2.out.drew)).trans (FrX.of_below HB3.out)).trans (FrX.of_below (B := B) (X := X) HB4.out)
    go_wp2
    have kf := KRL.out.put4 (.bool false) (.int .i64 0) (.int .i64 0) (.slice none 0 0)
    have q0 := kf.cell 0 _ rfl
    have q1 := kf.cell 1 _ rfl
    have q2 := kf.cell 2 _ rfl
    have q3 := kf.cell 3 _ rfl
    refine bodyPost_ret (v := .tuple #[.agg #[.bool false, .int .i64 0, .int .i64 0, .slice none 0 0], .func (.func K) #[] cs]) ?_ ?_ (ClR.fin (q := noEq) H.out.le_ H.out.hX e5 hc5 hfr _ _ _ _ rfl rfl)
    · simp [results, Try.results117, go_sem, q0, q1, q2, q3]
    · rfl

set_option maxHeartbeats 6400000 in
theorem cl_look_end (h : EpR w B x b bw wb W X k s fv rA rc ring) (hk : k < 9223372036854775807) (i : Nat) (hi : i < W) (j e : Nat) (hj : j < W) (he : e < 9223372036854775806) (hv : ¬ (s.P j ≠ 0 ∧ s.P j ≠ e + 1)) (hj2 : ¬ j + 1 < W) (p0 : Nat) (p1 : Nat) (p2 : Nat) (p3 : Nat) (h0 : BlkL w p0 [PV x]) (h1 : BlkL w p1 [IV i]) (h2 : BlkL w p2 [IV j]) (h3 : BlkL w p3 [UV e]) (a0 : ¬ QE x b bw wb W X rA p0) (a1 : ¬ QE x b bw wb W X rA p1) (a2 : ¬ QE x b bw wb W X rA p2) (a3 : ¬ QE x b bw wb W X rA p3) :
    Calls Try.prog 117 #[PV p0, PV p1, PV p2, PV p3] w (ClR w B x b bw wb W X k fv i ⟨noEq, s, .move e⟩) := by
  have hb0 : Below w.heap.size w (w.alloc RB).drew := ((Below.refl w.heap.size w).alloc (Nat.le_refl _) _).drew
  have e0 := h.reX (X' := w.heap.size :: X) hb0 (fun y hy => by rcases List.mem_cons.1 hy with e | e; exact .inr ⟨by omega, by rw [e]; simp⟩; exact .inl e)
  have K0 := Lib.hid (h0.below hb0)
  have g0 := h0.cell 0 _ rfl
  have l0 := h0.lt
  have A0 := Lib.hid a0
  have K1 := Lib.hid (h1.below hb0)
  have g1 := h1.cell 0 _ rfl
  have l1 := h1.lt
  have A1 := Lib.hid a1
  have K2 := Lib.hid (h2.below hb0)
  have g2 := h2.cell 0 _ rfl
  have l2 := h2.lt
  have A2 := Lib.hid a2
  have K3 := Lib.hid (h3.below hb0)
  have g3 := h3.cell 0 _ rfl
  have l3 := h3.lt
  have A3 := Lib.hid a3
  have KR := Lib.hid (BlkL.new w [.bool false, .int .i64 0, .int .i64 0, .slice none 0 0] 37).drew
  have hrb : w.heap.size ∉ [b, bw] := by have := h.lts; simp; omega
  have HRB := Lib.hid hrb
  have HB0 := Lib.hid hb0
  have H := Lib.hid h
  have h64 := h.w64
  have HO := Lib.hid (wordOf_any (w.alloc RB).drew j (by omega))
  have hl := load_any e0 hk i (j + 1) hi (by omega)
  unfold EpV.P at hv
  generalize s.ws.getD (j + 1) 0 = pv at hl hv
  have HL := Lib.hid hl
  have ew : IntKind.u64.wrap ((e : Int) + 1) = (e : Int) + 1 := IntWalk.u64_in _ (by omega)
  have ej : IntKind.i64.wrap ((j : Int) + 1) = (j : Int) + 1 := IntWalk.i64_in _ (by omega)
  have j2 : ¬ (j : Int) + 1 < (W : Int) := by omega
  have HMM := Lib.hid (fun w2 (hQ : ∀ p, QE x b bw wb W (w.heap.size :: X) rA p → p < w2.heap.size) => mk_move w2 x i e _ hQ)
  clear h hb0 hrb h0 a0 h1 a1 h2 a2 h3 a3 e0 hl
  go_enter Try.func117, Try.ntmps117
  go_wp2_with fail
  go_region_held3 (fun w' => w'.cell? ⟨p0, 0, none⟩ = some (PV x) ∧ w'.cell? ⟨p1, 0, none⟩ = some (IV i) ∧ w'.cell? ⟨p2, 0, none⟩ = some (IV j) ∧ w'.cell? ⟨p3, 0, none⟩ = some (UV e)) (go_keep)
    (first
    | ((with_reducible refine (HO.out).mono ?_); rintro e w1 ⟨rfl, hw⟩; subst hw)
    | ((with_reducible refine (HL.out).mono ?_); rintro e w2 ⟨rfl, ⟨ring2, e2⟩, hf2⟩; have k0 := cap_ld K0.out A0.out hf2; have k1 := cap_ld K1.out A1.out hf2; have k2 := cap_ld K2.out A2.out hf2; have k3 := cap_ld K3.out A3.out hf2; have n0 := k0.cell 0 _ rfl; have m0 := k0.lt; have n1 := k1.cell 0 _ rfl; have m1 := k1.lt; have n2 := k2.cell 0 _ rfl; have m2 := k2.lt; have n3 := k3.cell 0 _ rfl; have m3 := k3.lt; have kr2 := KR.out.off (hf2.mono (S' := [b, bw]) (by simp)) HRB.out; have KR2 := Lib.hid kr2; have K2' := Lib.hid (And.intro k0 (And.intro k1 (And.intro k2 k3))); have HE2 := Lib.hid e2; have HF2 := Lib.hid hf2; clear k0 k1 k2 k3 e2 hf2 kr2))
  clear HL HO g0 g1 g2 g3 K0 K1 K2 K3 l0 l1 l2 l3
  have c1 := HE2.out.c1
  have lx := HE2.out.lts.1
  rcases (by omega : pv = 0 ∨ (pv ≠ 0 ∧ pv = e + 1)) with v0 | ⟨v0, v1⟩
  · have v0' : (pv : Int) = 0 := by omega
    subst v0
    go_wp2_with fail
    go_region
    have HM := Lib.hid (HMM.out w2.drew (fun p hp => HE2.out.qlt hp))
    clear HMM
    go_wp2_with fail
    with_reducible refine (HM.out).mono ?_
    rintro e w3 ⟨f, rfl, ⟨hcl, K, cs, rfl⟩, hb3⟩
    have HG := Lib.hid (goOn_any w3 K #[] cs)
    have KR3 := Lib.hid (KR2.out.drew.below hb3)
    have HC3 := Lib.hid hcl
    have HB3 := Lib.hid hb3
    clear hcl hb3 HM
    go_wp2_with fail
    with_reducible refine (HG.out).mono ?_
    rintro e w4 ⟨rfl, hb4⟩
    have kr4 := KR3.out.below hb4
    have z0 := kr4.cell 0 _ rfl
    have z1 := kr4.cell 1 _ rfl
    have z2 := kr4.cell 2 _ rfl
    have z3 := kr4.cell 3 _ rfl
    have y0 := kr4.froz 0 (by simp)
    have y1 := kr4.froz 1 (by simp)
    have y2 := kr4.froz 2 (by simp)
    have y3 := kr4.froz 3 (by simp)
    have zl := kr4.lt
    have KRL := Lib.hid kr4
    have HB4 := Lib.hid hb4
    clear hb4 kr4 HG
    have e5 := ((HE2.out.below (w' := w2.drew) (Below.refl _ _).drew).below HB3.out).below HB4.out
    have hc5 := HC3.out.off (Off.of_below (S := []) HB4.out) (by simp)
    have hfr := (((FrX.of_below HB0.out).trans (H.out.fr1b HF2.out.drew)).trans (FrX.of_below HB3.out)).trans (FrX.of_below (B := B) (X := X) HB4.out)
    go_wp2
    have kf := KRL.out.put4 (.bool false) (.int .i64 0) (.int .i64 0) (.slice none 0 0)
    have q0 := kf.cell 0 _ rfl
    have q1 := kf.cell 1 _ rfl
    have q2 := kf.cell 2 _ rfl
    have q3 := kf.cell 3 _ rfl
    refine bodyPost_ret (v := .tuple #[.agg #[.bool false, .int .i64 0, .int .i64 0, .slice none 0 0], .func (.func K) #[] cs]) ?_ ?_ (ClR.fin (q := noEq) H.out.le_ H.out.hX e5 hc5 hfr _ _ _ _ rfl rfl)
    · simp [results, Try.results117, go_sem, q0, q1, q2, q3]
    · rfl
  · have v0' : ¬ (pv : Int) = 0 := by omega
    have v1' : (pv : Int) = (e : Int) + 1 := by omega
    subst v1
    go_wp2_with fail
    go_region
    have HM := Lib.hid (HMM.out w2.drew (fun p hp => HE2.out.qlt hp))
    clear HMM
    go_wp2_with fail
    with_reducible refine (HM.out).mono ?_
    rintro e w3 ⟨f, rfl, ⟨hcl, K, cs, rfl⟩, hb3⟩
    have HG := Lib.hid (goOn_any w3 K #[] cs)
    have KR3 := Lib.hid (KR2.out.drew.below hb3)
    have HC3 := Lib.hid hcl
    have HB3 := Lib.hid hb3
    clear hcl hb3 HM
    go_wp2_with fail
    with_reducible refine (HG.out).mono ?_
    rintro e w4 ⟨rfl, hb4⟩
    have kr4 := KR3.out.below hb4
    have z0 := kr4.cell 0 _ rfl
    have z1 := kr4.cell 1 _ rfl
    have z2 := kr4.cell 2 _ rfl
    have z3 := kr4.cell 3 _ rfl
    have y0 := kr4.froz 0 (by simp)
    have y1 := kr4.froz 1 (by simp)
    have y2 := kr4.froz 2 (by simp)
    have y3 := kr4.froz 3 (by simp)
    have zl := kr4.lt
    have KRL := Lib.hid kr4
    have HB4 := Lib.hid hb4
    clear hb4 kr4 HG
    have e5 := ((HE2.out.below (w' := w2.drew) (Below.refl _ _).drew).below HB3.out).below HB4.out
    have hc5 := HC3.out.off (Off.of_below (S := []) HB4.out) (by simp)
    have hfr := (((FrX.of_below HB0.out).trans (H.out.fr1b HF2.out.drew)).trans (FrX.of_below HB3.out)).trans (FrX.of_below (B := B) (X := X) HB4.out)
    go_wp2
    have kf := KRL.out.put4 (.bool false) (.int .i64 0) (.int .i64 0) (.slice none 0 0)
    have q0 := kf.cell 0 _ rfl
    have q1 := kf.cell 1 _ rfl
    have q2 := kf.cell 2 _ rfl
    have q3 := kf.cell 3 _ rfl
    refine bodyPost_ret (v := .tuple #[.agg #[.bool false, .int .i64 0, .int .i64 0, .slice none 0 0], .func (.func K) #[] cs]) ?_ ?_ (ClR.fin (q := noEq) H.out.le_ H.out.hX e5 hc5 hfr _ _ _ _ rfl rfl)
    · simp [results, Try.results117, go_sem, q0, q1, q2, q3]
    · rfl

end
end Go.Proofs.Ytpjgpiiibgogeaa
