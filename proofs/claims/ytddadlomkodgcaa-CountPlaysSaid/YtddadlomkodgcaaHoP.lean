/- CountHolds: the law's own step of a worker, by its ways. -/
import Derived.Test.YtddadlomkodgcaaHoM
import Derived.BigRegion
import Derived.Deep.QuietTactic
import Derived.BigQuiet
namespace Go.Proofs.Ytddadlomkodgcaa
open Go.RowKit
set_option maxRecDepth 100000
set_option linter.unusedVariables false

section
variable {w : World} {pb : Nat} {pc : Value} {top ups dn : Nat} {ops : Nat → Int} {si sw : Nat → Nat}
theorem PlB.ups1 (h : PlB w pb pc top ups dn ops si sw) : PlB (w.setCell ⟨pb, 2, none⟩ (.int .i64 ((ups : Int) + 1))) pb pc top ((ups + 1 : Nat) : Int) dn ops si sw := h.setUps _
theorem PlB.dn1 (h : PlB w pb pc top ups dn ops si sw) : PlB (w.setCell ⟨pb, 3, none⟩ (.int .i64 ((dn : Int) + 1))) pb pc top ups ((dn + 1 : Nat) : Int) ops si sw := h.setDn _
theorem PlB.sw1 (h : PlB w pb pc top ups dn ops si sw) {j : Nat} (hj : j < 64) (s : Nat) : PlB (w.setCell ⟨pb, 132 + j, none⟩ (.int .i64 ((s : Int) + 1))) pb pc top ups dn ops si (updN sw j (s + 1)) := h.setSw hj (s + 1)
theorem PlB.si1 (h : PlB w pb pc top ups dn ops si sw) {j : Nat} (hj : j < 64) (s : Nat) : PlB (w.setCell ⟨pb, 68 + j, none⟩ (.int .i64 ((s : Int) + 1))) pb pc top ups dn ops (updN si j (s + 1)) sw := h.setSi hj (s + 1)
theorem PlB.sw0 (h : PlB w pb pc top ups dn ops si sw) {j : Nat} (hj : j < 64) : PlB (w.setCell ⟨pb, 132 + j, none⟩ (.int .i64 0)) pb pc top ups dn ops si (updN sw j 0) := h.setSw hj 0
end
theorem step_idle (w : World) (p : Value) (who : Int) (hb : inB who 64 = true) (HP0 : Calls Try.prog 32 #[p, .int .i64 who] (w.alloc (.cells #[.bool false, .int .i64 0, .int .i64 0] 71)) fun e w' => e = .returned (.bool false) ∧ (w.alloc (.cells #[.bool false, .int .i64 0, .int .i64 0] 71)) = w') :
    Calls Try.prog 29 #[p, .int .i64 who] w fun e w' => e = .returned (.tuple #[resV false 0 0, .int .i64 7]) ∧ Below w.heap.size w w' := by
  have HW := Lib.hid (cWho_any (w.alloc (.cells #[.bool false, .int .i64 0, .int .i64 0] 71)) who)
  rw [hb] at HW
  have HP := Lib.hid HP0
  clear hb HP0
  go_enter Try.func29, Try.ntmps29
  go_wp2_with fail
  with_reducible refine HW.out.mono ?_
  rintro e w1 ⟨rfl, hw⟩
  subst hw
  go_wp2_with fail
  with_reducible refine HP.out.mono ?_
  rintro e w1 ⟨rfl, hw⟩
  subst hw
  go_wp2
  refine bodyPost_ret (v := .tuple #[resV false 0 0, .int .i64 7]) (by simp [results, Try.results29, go_sem]) rfl ⟨rfl, ?_⟩
  repeat' first
    | with_reducible exact Below.refl _ _
    | with_reducible refine Below.setCell ?_ (by simp) _
    | with_reducible refine Below.alloc ?_ (by simp) _
    | with_reducible refine Below.drew ?_
theorem pend_q (w : World) (c b bw limit v k : Nat) (calls : List CallV) (h : CntS w c b bw limit v k calls) (i : Nat) (hi : i < 64) (x : CallV) (hx : calls.getD i noCall = x) (h0 : x.op = 0) (t : Nat) :
    Calls Try.prog 32 #[.pointer (some ⟨c, 0, none⟩), .int .i64 (i : Int)] (w.drewN t) fun e w' => e = .returned (.bool false) ∧ w' = w.drewN t := by
  have hof : Off [] w (w.drewN t) := ⟨rfl, rfl, rfl, Nat.le_refl _, fun _ _ _ => rfl⟩
  have := pend_at (w.drewN t) c b bw limit v k calls (h.off hof (by simp) (by simp) (by simp)) i hi x hx
  rw [decide_eq_false (fun hn => hn h0)] at this
  exact this.mono fun e w' ⟨h1, h2⟩ => ⟨h1, h2.symm⟩
def PsEnd (w : World) (top c b bw pb i v : Nat) (calls : List CallV) (q : Nat) (e : Ending) (w' : World) : Prop :=
  e = .returned (.bool true) ∧ ∃ v' k' ups' dn' calls' ops' si' sw', HoM w top c b bw pb w' v' k' ups' dn' calls' ops' si' sw' ∧ HoI top (i + 1) v' k' ups' dn' calls' ops' si' sw' ∧
    (rankV v' (calls'.getD q noCall) < rankV v (calls.getD q noCall) ∨ rankV v' (calls'.getD q noCall) = 0)
section
variable {w wr : World} {top c b bw pb i v k ups dn : Nat} {calls : List CallV} {ops : Nat → Int} {si sw : Nat → Nat}

set_option maxHeartbeats 3200000 in
theorem pstep_none (h : HoM w top c b bw pb wr v k ups dn calls ops si sw) (I : HoI top i v k ups dn calls ops si sw) (hi : i < 100000) (htop : top ≤ 4) (q : Nat) (hq : q < 64) (x : CallV) (hx : calls.getD q noCall = x) (hp : x.op = 0) :
    Calls Try.prog 36 #[.pointer (some ⟨pb, 0, none⟩), .int .i64 (q : Int)] wr (PsEnd w top c b bw pb i v calls q) := by
  obtain ⟨lc, lb, lbw, lpb⟩ := h.lts
  have hki := I.ki
  have hui := I.ui
  have hvud := I.vud
  have hvt := I.vt
  have d0 := h.pl.c0
  have d1 := h.pl.c1
  have hwb := h.bel.size
  have HH := Lib.hid h
  have HI := Lib.hid I
  have q0 : (0 : Int) ≤ (q : Int) := by omega
  have q1 : (q : Int) < 64 := by omega

  have HP := Lib.hid (pend_at _ c b bw top v k calls h.cnt q hq x hx)
  rw [decide_eq_false (fun hn => hn hp)] at HP
  have HV := Lib.hid (value_eq _ c b bw top v k calls h.cnt (by omega) (v : Int) rfl)
  have hpi := pend_at _ c b bw top v k calls (h.cnt.alloc (.cells #[.bool false, .int .i64 0, .int .i64 0] 71)) q hq x hx
  rw [decide_eq_false (fun hn => hn hp)] at hpi
  have HS := Lib.hid (step_idle wr (.pointer (some ⟨c, 0, none⟩)) q (inB_iff.mpr (by omega)) hpi)
  clear hpi h I
  go_enter Try.func36, Try.ntmps36
  go_wp2_with fail
  with_reducible refine HP.out.mono ?_
  rintro e w1 ⟨rfl, hw⟩
  subst hw
  go_wp2_with fail
  with_reducible refine HV.out.mono ?_
  rintro e w1 ⟨rfl, hw⟩
  subst hw

  go_wp2_with fail
  with_reducible refine HS.out.mono ?_
  rintro e w3 ⟨rfl, hb3⟩
  have M3 := Lib.hid ((HH.out.below hb3).alloc (.cells #[.bool false, .int .i64 0, .int .i64 0] 71))
  clear hb3
  go_wp2
  go_ret
  refine ⟨rfl, v, k, ups, dn, calls, ops, si, sw, M3.out, HI.out.mono (Nat.le_succ _), .inr ?_⟩
  rw [hx]; unfold rankV; rw [if_pos hp]

set_option maxHeartbeats 3200000 in
theorem pstep_full (h : HoM w top c b bw pb wr v k ups dn calls ops si sw) (I : HoI top i v k ups dn calls ops si sw) (hi : i < 100000) (htop : top ≤ 4) (q : Nat) (hq : q < 64) (x : CallV) (hx : calls.getD q noCall = x) (ho : x.op = 1) (hl : x.ld = false) (hv : v = top) :
    Calls Try.prog 36 #[.pointer (some ⟨pb, 0, none⟩), .int .i64 (q : Int)] wr (PsEnd w top c b bw pb i v calls q) := by
  obtain ⟨lc, lb, lbw, lpb⟩ := h.lts
  have hki := I.ki
  have hui := I.ui
  have hvud := I.vud
  have hvt := I.vt
  have d0 := h.pl.c0
  have d1 := h.pl.c1
  have hwb := h.bel.size
  have HH := Lib.hid h
  have HI := Lib.hid I
  have q0 : (0 : Int) ≤ (q : Int) := by omega
  have q1 : (q : Int) < 64 := by omega

  have hp : x.op ≠ 0 := by rw [ho]; decide
  have hok := I.okc q hq
  rw [hx] at hok
  have hst : stepO top v x = ⟨true, 10, 0, v, noCall⟩ := by
    unfold stepO; rw [hl, if_neg (by decide), if_neg (by rw [ho]; decide), if_pos ho, if_pos hv]
  have HP := Lib.hid (pend_at _ c b bw top v k calls h.cnt q hq x hx)
  rw [decide_eq_true hp] at HP
  have HV := Lib.hid (value_eq _ c b bw top v k calls h.cnt (by omega) (v : Int) rfl)
  have HS := Lib.hid (step_any _ c b bw top v k calls h.cnt (by omega) I.vt (by omega) q hq x hx hp hok)
  rw [hst] at HS
  dsimp only at HS
  have hopq := I.opc q hq (by rw [hx]; exact hp)
  rw [hx, ho] at hopq
  rw [show (((1 : Nat)) : Int) = 1 from rfl] at hopq
  have hsub : (ups : Int) - (dn : Int) = (v : Int) := by omega
  have f1 : (v : Int) = (top : Int) := by omega
  have hvv : (v : Int) ≠ (v : Int) ↔ False := by simp
  clear h I hst
  go_enter Try.func36, Try.ntmps36
  go_wp2_with fail
  with_reducible refine HP.out.mono ?_
  rintro e w1 ⟨rfl, hw⟩
  subst hw
  go_wp2_with fail
  with_reducible refine HV.out.mono ?_
  rintro e w1 ⟨rfl, hw⟩
  subst hw

  go_wp2_with fail
  with_reducible refine HS.out.mono ?_
  rintro e w3 ⟨rfl, hc3, hf3⟩
  have M3 := Lib.hid ((HH.out.act hc3 hf3).alloc (.cells #[.bool true, .int .i64 10, .int .i64 0] 71))
  have K3 := Lib.hid (BlkL.new w3 [.bool true, .int .i64 10, .int .i64 0] 71)
  have hz3 : w.heap.size ≤ w3.heap.size := (HH.out.act hc3 hf3).bel.size
  have hzp : pb ≠ w3.heap.size := by have := hf3.size; omega
  clear d0 d1
  have d0 := M3.out.pl.c0
  have d1 := M3.out.pl.c1
  have lp3 := M3.out.pl.lt
  have HV3 := Lib.hid (value_eq _ c b bw top (v) (k + 1) _ M3.out.cnt (by omega) (v : Int) (by omega))
  clear hc3 hf3
  go_wp2_with fail
  with_reducible refine HV3.out.mono ?_
  rintro e w1 ⟨rfl, hw⟩
  subst hw

  have d2 := M3.out.pl.c2
  have d3 := M3.out.pl.c3
  have o0 := M3.out.pl.op q hq
  rw [hopq] at o0
  have HPq := Lib.hid (fun t => pend_q _ c b bw top v (k + 1) _ M3.out.cnt q hq noCall (by rw [getD_set _ _ _ _ _ (by rw [HI.out.len]; exact hq), if_pos rfl]) rfl t)
  go_wp2_with fail
  go_quiet (first | (go_at_call 32; with_reducible exact Calls.quiet_of_same (HPq.out _)))
  go_wp2
  go_ret
  refine ⟨rfl, v, k + 1, ups, dn, calls.set q noCall, ops, si, sw, M3.out.drewN nq, HI.out.turn hq (Nat.le_refl _) (OkCall.none_ _) (fun hn => absurd rfl hn) (fun hn => absurd rfl hn) (fun hn => by cases hn) (fun _ _ => rfl) (fun _ _ => rfl) (fun _ _ => rfl) (Nat.le_succ_of_le (HI.out.sib q)) (Nat.le_succ_of_le (HI.out.swb q)), .inr ?_⟩
  rw [getD_set _ _ _ _ _ (by rw [HI.out.len]; exact hq), if_pos rfl]; rfl

set_option maxHeartbeats 3200000 in
theorem pstep_range (h : HoM w top c b bw pb wr v k ups dn calls ops si sw) (I : HoI top i v k ups dn calls ops si sw) (hi : i < 100000) (htop : top ≤ 4) (q : Nat) (hq : q < 64) (x : CallV) (hx : calls.getD q noCall = x) (ho : x.op = 2) (hl : x.ld = false) (hv : v = 0) :
    Calls Try.prog 36 #[.pointer (some ⟨pb, 0, none⟩), .int .i64 (q : Int)] wr (PsEnd w top c b bw pb i v calls q) := by
  obtain ⟨lc, lb, lbw, lpb⟩ := h.lts
  have hki := I.ki
  have hui := I.ui
  have hvud := I.vud
  have hvt := I.vt
  have d0 := h.pl.c0
  have d1 := h.pl.c1
  have hwb := h.bel.size
  have HH := Lib.hid h
  have HI := Lib.hid I
  have q0 : (0 : Int) ≤ (q : Int) := by omega
  have q1 : (q : Int) < 64 := by omega

  have hp : x.op ≠ 0 := by rw [ho]; decide
  have hok := I.okc q hq
  rw [hx] at hok
  have hst : stepO top v x = ⟨true, 5, 0, v, noCall⟩ := by
    unfold stepO; rw [hl, if_neg (by decide), if_neg (by rw [ho]; decide), if_neg (by rw [ho]; decide), if_pos hv]
  have HP := Lib.hid (pend_at _ c b bw top v k calls h.cnt q hq x hx)
  rw [decide_eq_true hp] at HP
  have HV := Lib.hid (value_eq _ c b bw top v k calls h.cnt (by omega) (v : Int) rfl)
  have HS := Lib.hid (step_any _ c b bw top v k calls h.cnt (by omega) I.vt (by omega) q hq x hx hp hok)
  rw [hst] at HS
  dsimp only at HS
  have hopq := I.opc q hq (by rw [hx]; exact hp)
  rw [hx, ho] at hopq
  rw [show (((2 : Nat)) : Int) = 2 from rfl] at hopq
  have hsub : (ups : Int) - (dn : Int) = (v : Int) := by omega
  have f1 : (v : Int) = 0 := by omega
  have hvv : (v : Int) ≠ (v : Int) ↔ False := by simp
  clear h I hst
  go_enter Try.func36, Try.ntmps36
  go_wp2_with fail
  with_reducible refine HP.out.mono ?_
  rintro e w1 ⟨rfl, hw⟩
  subst hw
  go_wp2_with fail
  with_reducible refine HV.out.mono ?_
  rintro e w1 ⟨rfl, hw⟩
  subst hw

  go_wp2_with fail
  with_reducible refine HS.out.mono ?_
  rintro e w3 ⟨rfl, hc3, hf3⟩
  have M3 := Lib.hid ((HH.out.act hc3 hf3).alloc (.cells #[.bool true, .int .i64 5, .int .i64 0] 71))
  have K3 := Lib.hid (BlkL.new w3 [.bool true, .int .i64 5, .int .i64 0] 71)
  have hz3 : w.heap.size ≤ w3.heap.size := (HH.out.act hc3 hf3).bel.size
  have hzp : pb ≠ w3.heap.size := by have := hf3.size; omega
  clear d0 d1
  have d0 := M3.out.pl.c0
  have d1 := M3.out.pl.c1
  have lp3 := M3.out.pl.lt
  have HV3 := Lib.hid (value_eq _ c b bw top (v) (k + 1) _ M3.out.cnt (by omega) (v : Int) (by omega))
  clear hc3 hf3
  go_wp2_with fail
  with_reducible refine HV3.out.mono ?_
  rintro e w1 ⟨rfl, hw⟩
  subst hw

  have d2 := M3.out.pl.c2
  have d3 := M3.out.pl.c3
  have o0 := M3.out.pl.op q hq
  rw [hopq] at o0
  have HPq := Lib.hid (fun t => pend_q _ c b bw top v (k + 1) _ M3.out.cnt q hq noCall (by rw [getD_set _ _ _ _ _ (by rw [HI.out.len]; exact hq), if_pos rfl]) rfl t)
  go_wp2_with fail
  go_quiet (first | (go_at_call 32; with_reducible exact Calls.quiet_of_same (HPq.out _)))
  go_wp2
  go_ret
  refine ⟨rfl, v, k + 1, ups, dn, calls.set q noCall, ops, si, sw, M3.out.drewN nq, HI.out.turn hq (Nat.le_refl _) (OkCall.none_ _) (fun hn => absurd rfl hn) (fun hn => absurd rfl hn) (fun hn => by cases hn) (fun _ _ => rfl) (fun _ _ => rfl) (fun _ _ => rfl) (Nat.le_succ_of_le (HI.out.sib q)) (Nat.le_succ_of_le (HI.out.swb q)), .inr ?_⟩
  rw [getD_set _ _ _ _ _ (by rw [HI.out.len]; exact hq), if_pos rfl]; rfl

set_option maxHeartbeats 3200000 in
theorem pstep_read (h : HoM w top c b bw pb wr v k ups dn calls ops si sw) (I : HoI top i v k ups dn calls ops si sw) (hi : i < 100000) (htop : top ≤ 4) (q : Nat) (hq : q < 64) (x : CallV) (hx : calls.getD q noCall = x) (ho : x.op = 3) (hl : x.ld = false) :
    Calls Try.prog 36 #[.pointer (some ⟨pb, 0, none⟩), .int .i64 (q : Int)] wr (PsEnd w top c b bw pb i v calls q) := by
  obtain ⟨lc, lb, lbw, lpb⟩ := h.lts
  have hki := I.ki
  have hui := I.ui
  have hvud := I.vud
  have hvt := I.vt
  have d0 := h.pl.c0
  have d1 := h.pl.c1
  have hwb := h.bel.size
  have HH := Lib.hid h
  have HI := Lib.hid I
  have q0 : (0 : Int) ≤ (q : Int) := by omega
  have q1 : (q : Int) < 64 := by omega

  have hp : x.op ≠ 0 := by rw [ho]; decide
  have hok := I.okc q hq
  rw [hx] at hok
  have hst : stepO top v x = ⟨true, 0, (v : Int), v, noCall⟩ := by
    unfold stepO; rw [hl, if_neg (by decide), if_pos ho]
  have HP := Lib.hid (pend_at _ c b bw top v k calls h.cnt q hq x hx)
  rw [decide_eq_true hp] at HP
  have HV := Lib.hid (value_eq _ c b bw top v k calls h.cnt (by omega) (v : Int) rfl)
  have HS := Lib.hid (step_any _ c b bw top v k calls h.cnt (by omega) I.vt (by omega) q hq x hx hp hok)
  rw [hst] at HS
  dsimp only at HS
  have hopq := I.opc q hq (by rw [hx]; exact hp)
  rw [hx, ho] at hopq
  rw [show (((3 : Nat)) : Int) = 3 from rfl] at hopq
  have hsub : (ups : Int) - (dn : Int) = (v : Int) := by omega
  have hvv : (v : Int) ≠ (v : Int) ↔ False := by simp
  clear h I hst
  go_enter Try.func36, Try.ntmps36
  go_wp2_with fail
  with_reducible refine HP.out.mono ?_
  rintro e w1 ⟨rfl, hw⟩
  subst hw
  go_wp2_with fail
  with_reducible refine HV.out.mono ?_
  rintro e w1 ⟨rfl, hw⟩
  subst hw

  go_wp2_with fail
  with_reducible refine HS.out.mono ?_
  rintro e w3 ⟨rfl, hc3, hf3⟩
  have M3 := Lib.hid ((HH.out.act hc3 hf3).alloc (.cells #[.bool true, .int .i64 0, .int .i64 (v : Int)] 71))
  have K3 := Lib.hid (BlkL.new w3 [.bool true, .int .i64 0, .int .i64 (v : Int)] 71)
  have hz3 : w.heap.size ≤ w3.heap.size := (HH.out.act hc3 hf3).bel.size
  have hzp : pb ≠ w3.heap.size := by have := hf3.size; omega
  clear d0 d1
  have d0 := M3.out.pl.c0
  have d1 := M3.out.pl.c1
  have lp3 := M3.out.pl.lt
  have HV3 := Lib.hid (value_eq _ c b bw top (v) (k + 1) _ M3.out.cnt (by omega) (v : Int) (by omega))
  clear hc3 hf3
  go_wp2_with fail
  with_reducible refine HV3.out.mono ?_
  rintro e w1 ⟨rfl, hw⟩
  subst hw

  have d2 := M3.out.pl.c2
  have d3 := M3.out.pl.c3
  have o0 := M3.out.pl.op q hq
  rw [hopq] at o0
  have HPq := Lib.hid (fun t => pend_q _ c b bw top v (k + 1) _ M3.out.cnt q hq noCall (by rw [getD_set _ _ _ _ _ (by rw [HI.out.len]; exact hq), if_pos rfl]) rfl t)
  go_wp2_with fail
  go_quiet (first | (go_at_call 32; with_reducible exact Calls.quiet_of_same (HPq.out _)))
  go_wp2
  go_ret
  refine ⟨rfl, v, k + 1, ups, dn, calls.set q noCall, ops, si, sw, M3.out.drewN nq, HI.out.turn hq (Nat.le_refl _) (OkCall.none_ _) (fun hn => absurd rfl hn) (fun hn => absurd rfl hn) (fun hn => by cases hn) (fun _ _ => rfl) (fun _ _ => rfl) (fun _ _ => rfl) (Nat.le_succ_of_le (HI.out.sib q)) (Nat.le_succ_of_le (HI.out.swb q)), .inr ?_⟩
  rw [getD_set _ _ _ _ _ (by rw [HI.out.len]; exact hq), if_pos rfl]; rfl

set_option maxHeartbeats 3200000 in
theorem pstep_up (h : HoM w top c b bw pb wr v k ups dn calls ops si sw) (I : HoI top i v k ups dn calls ops si sw) (hi : i < 100000) (htop : top ≤ 4) (q : Nat) (hq : q < 64) (x : CallV) (hx : calls.getD q noCall = x) (ho : x.op = 1) (hl : x.ld = true) (hv : v = x.old) :
    Calls Try.prog 36 #[.pointer (some ⟨pb, 0, none⟩), .int .i64 (q : Int)] wr (PsEnd w top c b bw pb i v calls q) := by
  obtain ⟨lc, lb, lbw, lpb⟩ := h.lts
  have hki := I.ki
  have hui := I.ui
  have hvud := I.vud
  have hvt := I.vt
  have d0 := h.pl.c0
  have d1 := h.pl.c1
  have hwb := h.bel.size
  have HH := Lib.hid h
  have HI := Lib.hid I
  have q0 : (0 : Int) ≤ (q : Int) := by omega
  have q1 : (q : Int) < 64 := by omega

  have hp : x.op ≠ 0 := by rw [ho]; decide
  have hok := I.okc q hq
  rw [hx] at hok
  have hst : stepO top v x = ⟨true, 0, ((v : Int) + 1), v + 1, noCall⟩ := by
    unfold stepO; rw [hl, if_pos rfl, if_pos hv, if_neg (by rw [ho]; decide)]
  have HP := Lib.hid (pend_at _ c b bw top v k calls h.cnt q hq x hx)
  rw [decide_eq_true hp] at HP
  have HV := Lib.hid (value_eq _ c b bw top v k calls h.cnt (by omega) (v : Int) rfl)
  have HS := Lib.hid (step_any _ c b bw top v k calls h.cnt (by omega) I.vt (by omega) q hq x hx hp hok)
  rw [hst] at HS
  dsimp only at HS
  have hopq := I.opc q hq (by rw [hx]; exact hp)
  rw [hx, ho] at hopq
  rw [show (((1 : Nat)) : Int) = 1 from rfl] at hopq
  have hlt := hok.ld hl
  rw [ho, ← hv] at hlt
  have hsub : (ups : Int) + 1 - (dn : Int) = ((v : Int) + 1) := by omega
  clear hok hv
  clear h I hst
  go_enter Try.func36, Try.ntmps36
  go_wp2_with fail
  with_reducible refine HP.out.mono ?_
  rintro e w1 ⟨rfl, hw⟩
  subst hw
  go_wp2_with fail
  with_reducible refine HV.out.mono ?_
  rintro e w1 ⟨rfl, hw⟩
  subst hw

  go_wp2_with fail
  with_reducible refine HS.out.mono ?_
  rintro e w3 ⟨rfl, hc3, hf3⟩
  have M3 := Lib.hid ((HH.out.act hc3 hf3).alloc (.cells #[.bool true, .int .i64 0, .int .i64 ((v : Int) + 1)] 71))
  have K3 := Lib.hid (BlkL.new w3 [.bool true, .int .i64 0, .int .i64 ((v : Int) + 1)] 71)
  have hz3 : w.heap.size ≤ w3.heap.size := (HH.out.act hc3 hf3).bel.size
  have hzp : pb ≠ w3.heap.size := by have := hf3.size; omega
  clear d0 d1
  have d0 := M3.out.pl.c0
  have d1 := M3.out.pl.c1
  have lp3 := M3.out.pl.lt
  have HV3 := Lib.hid (value_eq _ c b bw top (v + 1) (k + 1) _ M3.out.cnt (by omega) ((v : Int) + 1) (by omega))
  clear hc3 hf3
  go_wp2_with fail
  with_reducible refine HV3.out.mono ?_
  rintro e w1 ⟨rfl, hw⟩
  subst hw

  have hne : ¬ ((v : Int) + 1) = (v : Int) := by omega
  go_wp2
  go_loopw [62] (fun jv wx => ∃ (jj : Nat) (sw2 : Nat → Nat), jj ≤ 64 ∧ jv = .int .i64 ((jj : Nat) : Int) ∧ HoM w top c b bw pb wx (v + 1) (k + 1) ups dn (calls.set q noCall) ops si sw2 ∧ (∀ t, sw2 t = if t < jj then sw t + 1 else sw t) ∧ BlkL wx w3.heap.size [.bool true, .int .i64 0, .int .i64 ((v : Int) + 1)]) (fun jv _ => 64 - (intOf jv).toNat)
  case atStart => exact ⟨0, sw, by omega, rfl, M3.out, (fun t => by rw [if_neg (by omega)]), K3.out⟩
  case round =>
    obtain ⟨jj, sw2, hj, rfl, m5, hsw, k5⟩ := hrel
    clear d0 d1 lp3
    rcases Nat.lt_or_ge jj 64 with hjj | hjj
    · have j0 : (0 : Int) ≤ (jj : Int) := by omega
      have j1 : (jj : Int) < 64 := by omega
      have e0 := m5.pl.sw jj hjj
      have f0 := m5.pl.fr (132 + jj) (by omega)
      have l5 := m5.pl.lt
      have hb5 : sw2 jj ≤ 100000 := by have := HI.out.swb jj; rw [hsw]; split <;> omega
      have M6 := Lib.hid (m5.put (m5.pl.sw1 hjj (sw2 jj)))
      have K6 := Lib.hid (k5.other pb (132 + jj) (.int .i64 ((sw2 jj : Int) + 1)) (by omega))
      have hsw6 := Lib.hid hsw
      clear m5 k5 hsw
      generalize hs2 : sw2 jj = s2 at *
      go_wp2
      go_region
      go_wp2
      go_roundw
      case rel =>
        refine ⟨jj + 1, updN sw2 jj (s2 + 1), by omega, by go_num, M6.out.drew, fun t => ?_, K6.out.drew⟩
        have h6 := hsw6.out
        unfold updN
        by_cases e : t = jj
        · subst e; rw [if_pos rfl, if_pos (by omega)]; have := h6 t; rw [if_neg (by omega)] at this; omega
        · rw [if_neg e, h6 t]
          by_cases e2 : t < jj
          · rw [if_pos e2, if_pos (by omega)]
          · rw [if_neg e2, if_neg (by omega)]
      case measure => simp [intOf]; omega
    · obtain rfl : jj = 64 := by omega
      have j1 : ¬ ((64 : Nat) : Int) < 64 := by omega
      have m0 := k5.cell 0 _ rfl
      have m1 := k5.cell 1 _ rfl
      have m2 := k5.cell 2 _ rfl
      have ml := k5.lt
      have d0 := m5.pl.c0
      have d2 := m5.pl.c2
      have d3 := m5.pl.c3
      have g2 := m5.pl.fr 2 (by omega)
      have g3 := m5.pl.fr 3 (by omega)
      have o0 := m5.pl.op q hq
      have lp5 := m5.pl.lt
      rw [hopq] at o0
      have M5 := Lib.hid m5
      have hsw6 := Lib.hid hsw
      clear m5 k5 hsw
      have M6 := Lib.hid (M5.out.put M5.out.pl.ups1)
      have c2 := M6.out.pl.c2
      have c3 := M6.out.pl.c3
      have c0 := M6.out.pl.c0
      have HPq := Lib.hid (fun t => pend_q _ c b bw top (v + 1) (k + 1) _ M6.out.cnt q hq noCall (by rw [getD_set _ _ _ _ _ (by rw [HI.out.len]; exact hq), if_pos rfl]) rfl t)
      go_wp2_with fail
      go_quiet (first | (go_at_call 32; with_reducible exact Calls.quiet_of_same (HPq.out _)))
      go_wp2
      go_ret
      refine ⟨rfl, v + 1, k + 1, ups + 1, dn, calls.set q noCall, ops, si, sw2, M6.out.drewN nq, ?_, .inr ?_⟩
      · have h1 := HI.out.turn hq (Nat.le_refl (k + 1)) (OkCall.none_ _) (ops' := ops) (si' := si) (sw' := sw) (fun hn => absurd rfl hn) (fun hn => absurd rfl hn) (fun hn => by cases hn) (fun _ _ => rfl) (fun _ _ => rfl) (fun _ _ => rfl) (Nat.le_succ_of_le (HI.out.sib q)) (Nat.le_succ_of_le (HI.out.swb q))
        have h6 := hsw6.out
        exact ⟨h1.len, h1.ki, by omega, by omega, by omega, h1.okc, h1.opc, h1.par, (fun j hj _ => .inr (by rw [h6 j, if_pos hj]; omega)), h1.sib, (fun j => by have := HI.out.swb j; rw [h6 j]; split <;> omega)⟩
      · rw [getD_set _ _ _ _ _ (by rw [HI.out.len]; exact hq), if_pos rfl]; rfl

set_option maxHeartbeats 3200000 in
theorem pstep_down (h : HoM w top c b bw pb wr v k ups dn calls ops si sw) (I : HoI top i v k ups dn calls ops si sw) (hi : i < 100000) (htop : top ≤ 4) (q : Nat) (hq : q < 64) (x : CallV) (hx : calls.getD q noCall = x) (ho : x.op = 2) (hl : x.ld = true) (hv : v = x.old) :
    Calls Try.prog 36 #[.pointer (some ⟨pb, 0, none⟩), .int .i64 (q : Int)] wr (PsEnd w top c b bw pb i v calls q) := by
  obtain ⟨lc, lb, lbw, lpb⟩ := h.lts
  have hki := I.ki
  have hui := I.ui
  have hvud := I.vud
  have hvt := I.vt
  have d0 := h.pl.c0
  have d1 := h.pl.c1
  have hwb := h.bel.size
  have HH := Lib.hid h
  have HI := Lib.hid I
  have q0 : (0 : Int) ≤ (q : Int) := by omega
  have q1 : (q : Int) < 64 := by omega

  have hp : x.op ≠ 0 := by rw [ho]; decide
  have hok := I.okc q hq
  rw [hx] at hok
  have hst : stepO top v x = ⟨true, 0, ((v : Int) - 1), v - 1, noCall⟩ := by
    unfold stepO; rw [hl, if_pos rfl, if_pos hv, if_pos ho]
  have HP := Lib.hid (pend_at _ c b bw top v k calls h.cnt q hq x hx)
  rw [decide_eq_true hp] at HP
  have HV := Lib.hid (value_eq _ c b bw top v k calls h.cnt (by omega) (v : Int) rfl)
  have HS := Lib.hid (step_any _ c b bw top v k calls h.cnt (by omega) I.vt (by omega) q hq x hx hp hok)
  rw [hst] at HS
  dsimp only at HS
  have hopq := I.opc q hq (by rw [hx]; exact hp)
  rw [hx, ho] at hopq
  rw [show (((2 : Nat)) : Int) = 2 from rfl] at hopq
  have hlt := hok.ld hl
  rw [ho, ← hv] at hlt
  have hsub : (ups : Int) - ((dn : Int) + 1) = ((v : Int) - 1) := by omega
  clear hok hv
  clear h I hst
  go_enter Try.func36, Try.ntmps36
  go_wp2_with fail
  with_reducible refine HP.out.mono ?_
  rintro e w1 ⟨rfl, hw⟩
  subst hw
  go_wp2_with fail
  with_reducible refine HV.out.mono ?_
  rintro e w1 ⟨rfl, hw⟩
  subst hw

  go_wp2_with fail
  with_reducible refine HS.out.mono ?_
  rintro e w3 ⟨rfl, hc3, hf3⟩
  have M3 := Lib.hid ((HH.out.act hc3 hf3).alloc (.cells #[.bool true, .int .i64 0, .int .i64 ((v : Int) - 1)] 71))
  have K3 := Lib.hid (BlkL.new w3 [.bool true, .int .i64 0, .int .i64 ((v : Int) - 1)] 71)
  have hz3 : w.heap.size ≤ w3.heap.size := (HH.out.act hc3 hf3).bel.size
  have hzp : pb ≠ w3.heap.size := by have := hf3.size; omega
  clear d0 d1
  have d0 := M3.out.pl.c0
  have d1 := M3.out.pl.c1
  have lp3 := M3.out.pl.lt
  have HV3 := Lib.hid (value_eq _ c b bw top (v - 1) (k + 1) _ M3.out.cnt (by omega) ((v : Int) - 1) (by omega))
  clear hc3 hf3
  go_wp2_with fail
  with_reducible refine HV3.out.mono ?_
  rintro e w1 ⟨rfl, hw⟩
  subst hw

  have hne : ¬ ((v : Int) - 1) = (v : Int) := by omega
  go_wp2
  go_loopw [62] (fun jv wx => ∃ (jj : Nat) (sw2 : Nat → Nat), jj ≤ 64 ∧ jv = .int .i64 ((jj : Nat) : Int) ∧ HoM w top c b bw pb wx (v - 1) (k + 1) ups dn (calls.set q noCall) ops si sw2 ∧ (∀ t, sw2 t = if t < jj then sw t + 1 else sw t) ∧ BlkL wx w3.heap.size [.bool true, .int .i64 0, .int .i64 ((v : Int) - 1)]) (fun jv _ => 64 - (intOf jv).toNat)
  case atStart => exact ⟨0, sw, by omega, rfl, M3.out, (fun t => by rw [if_neg (by omega)]), K3.out⟩
  case round =>
    obtain ⟨jj, sw2, hj, rfl, m5, hsw, k5⟩ := hrel
    clear d0 d1 lp3
    rcases Nat.lt_or_ge jj 64 with hjj | hjj
    · have j0 : (0 : Int) ≤ (jj : Int) := by omega
      have j1 : (jj : Int) < 64 := by omega
      have e0 := m5.pl.sw jj hjj
      have f0 := m5.pl.fr (132 + jj) (by omega)
      have l5 := m5.pl.lt
      have hb5 : sw2 jj ≤ 100000 := by have := HI.out.swb jj; rw [hsw]; split <;> omega
      have M6 := Lib.hid (m5.put (m5.pl.sw1 hjj (sw2 jj)))
      have K6 := Lib.hid (k5.other pb (132 + jj) (.int .i64 ((sw2 jj : Int) + 1)) (by omega))
      have hsw6 := Lib.hid hsw
      clear m5 k5 hsw
      generalize hs2 : sw2 jj = s2 at *
      go_wp2
      go_region
      go_wp2
      go_roundw
      case rel =>
        refine ⟨jj + 1, updN sw2 jj (s2 + 1), by omega, by go_num, M6.out.drew, fun t => ?_, K6.out.drew⟩
        have h6 := hsw6.out
        unfold updN
        by_cases e : t = jj
        · subst e; rw [if_pos rfl, if_pos (by omega)]; have := h6 t; rw [if_neg (by omega)] at this; omega
        · rw [if_neg e, h6 t]
          by_cases e2 : t < jj
          · rw [if_pos e2, if_pos (by omega)]
          · rw [if_neg e2, if_neg (by omega)]
      case measure => simp [intOf]; omega
    · obtain rfl : jj = 64 := by omega
      have j1 : ¬ ((64 : Nat) : Int) < 64 := by omega
      have m0 := k5.cell 0 _ rfl
      have m1 := k5.cell 1 _ rfl
      have m2 := k5.cell 2 _ rfl
      have ml := k5.lt
      have d0 := m5.pl.c0
      have d2 := m5.pl.c2
      have d3 := m5.pl.c3
      have g2 := m5.pl.fr 2 (by omega)
      have g3 := m5.pl.fr 3 (by omega)
      have o0 := m5.pl.op q hq
      have lp5 := m5.pl.lt
      rw [hopq] at o0
      have M5 := Lib.hid m5
      have hsw6 := Lib.hid hsw
      clear m5 k5 hsw
      have M6 := Lib.hid (M5.out.put M5.out.pl.dn1)
      have c2 := M6.out.pl.c2
      have c3 := M6.out.pl.c3
      have c0 := M6.out.pl.c0
      have HPq := Lib.hid (fun t => pend_q _ c b bw top (v - 1) (k + 1) _ M6.out.cnt q hq noCall (by rw [getD_set _ _ _ _ _ (by rw [HI.out.len]; exact hq), if_pos rfl]) rfl t)
      go_wp2_with fail
      go_quiet (first | (go_at_call 32; with_reducible exact Calls.quiet_of_same (HPq.out _)))
      go_wp2
      go_ret
      refine ⟨rfl, v - 1, k + 1, ups, dn + 1, calls.set q noCall, ops, si, sw2, M6.out.drewN nq, ?_, .inr ?_⟩
      · have h1 := HI.out.turn hq (Nat.le_refl (k + 1)) (OkCall.none_ _) (ops' := ops) (si' := si) (sw' := sw) (fun hn => absurd rfl hn) (fun hn => absurd rfl hn) (fun hn => by cases hn) (fun _ _ => rfl) (fun _ _ => rfl) (fun _ _ => rfl) (Nat.le_succ_of_le (HI.out.sib q)) (Nat.le_succ_of_le (HI.out.swb q))
        have h6 := hsw6.out
        exact ⟨h1.len, h1.ki, by omega, by omega, by omega, h1.okc, h1.opc, h1.par, (fun j hj _ => .inr (by rw [h6 j, if_pos hj]; omega)), h1.sib, (fun j => by have := HI.out.swb j; rw [h6 j]; split <;> omega)⟩
      · rw [getD_set _ _ _ _ _ (by rw [HI.out.len]; exact hq), if_pos rfl]; rfl

set_option maxHeartbeats 3200000 in
theorem pstep_load (h : HoM w top c b bw pb wr v k ups dn calls ops si sw) (I : HoI top i v k ups dn calls ops si sw) (hi : i < 100000) (htop : top ≤ 4) (q : Nat) (hq : q < 64) (x : CallV) (hx : calls.getD q noCall = x) (hp : x.op ≠ 0) (hl : x.ld = false) (hst0 : stepO top v x = ⟨false, 0, 0, v, ⟨x.op, true, v⟩⟩) (HLD : (x.op = 1 ∧ v < top) ∨ (x.op = 2 ∧ 0 < v ∧ v ≤ top)) :
    Calls Try.prog 36 #[.pointer (some ⟨pb, 0, none⟩), .int .i64 (q : Int)] wr (PsEnd w top c b bw pb i v calls q) := by
  obtain ⟨lc, lb, lbw, lpb⟩ := h.lts
  have hki := I.ki
  have hui := I.ui
  have hvud := I.vud
  have hvt := I.vt
  have d0 := h.pl.c0
  have d1 := h.pl.c1
  have hwb := h.bel.size
  have HH := Lib.hid h
  have HI := Lib.hid I
  have q0 : (0 : Int) ≤ (q : Int) := by omega
  have q1 : (q : Int) < 64 := by omega

  have hp : x.op ≠ 0 := by assumption
  have hok := I.okc q hq
  rw [hx] at hok
  have hst : stepO top v x = ⟨false, 0, 0, v, ⟨x.op, true, v⟩⟩ := by
    exact hst0
  have HP := Lib.hid (pend_at _ c b bw top v k calls h.cnt q hq x hx)
  rw [decide_eq_true hp] at HP
  have HV := Lib.hid (value_eq _ c b bw top v k calls h.cnt (by omega) (v : Int) rfl)
  have HS := Lib.hid (step_any _ c b bw top v k calls h.cnt (by omega) I.vt (by omega) q hq x hx hp hok)
  rw [hst] at HS
  dsimp only at HS
  have hop2 := I.opc q hq (by rw [hx]; exact hp)
  rw [hx] at hop2
  have hpar := I.par q hq (by rw [hx]; exact hp)
  rw [hx, hl] at hpar
  have hsb := I.sib q
  obtain ⟨s, hs⟩ : ∃ s, si q = s := ⟨_, rfl⟩
  rw [hs] at hpar hsb
  have HSQ := Lib.hid hs
  clear hs
  have hs2 : s % 2 = 0 := by simpa using hpar
  have hm1 : ((s : Int) + 1) % 2 = 1 := by omega
  have hm2 : ((s : Int) + 1).tmod 2 = 1 := by rw [Int.tmod_eq_emod_of_nonneg (by omega)]; exact hm1
  clear hpar hs2

  clear h I hst
  go_enter Try.func36, Try.ntmps36
  go_wp2_with fail
  with_reducible refine HP.out.mono ?_
  rintro e w1 ⟨rfl, hw⟩
  subst hw
  go_wp2_with fail
  with_reducible refine HV.out.mono ?_
  rintro e w1 ⟨rfl, hw⟩
  subst hw

  go_wp2_with fail
  with_reducible refine HS.out.mono ?_
  rintro e w3 ⟨rfl, hc3, hf3⟩
  have M3 := Lib.hid ((HH.out.act hc3 hf3).alloc (.cells #[.bool false, .int .i64 0, .int .i64 0] 71))
  have K3 := Lib.hid (BlkL.new w3 [.bool false, .int .i64 0, .int .i64 0] 71)
  have hz3 : w.heap.size ≤ w3.heap.size := (HH.out.act hc3 hf3).bel.size
  have hzp : pb ≠ w3.heap.size := by have := hf3.size; omega
  clear d0 d1
  have d0 := M3.out.pl.c0
  have d1 := M3.out.pl.c1
  have lp3 := M3.out.pl.lt
  have HV3 := Lib.hid (value_eq _ c b bw top (v) (k + 1) _ M3.out.cnt (by omega) (v : Int) (by omega))
  clear hc3 hf3
  go_wp2_with fail
  with_reducible refine HV3.out.mono ?_
  rintro e w1 ⟨rfl, hw⟩
  subst hw

  have m0 := K3.out.cell 0 _ rfl
  have ml := K3.out.lt
  have s0 := M3.out.pl.si q hq
  rw [HSQ.out] at s0
  have g0 := M3.out.pl.fr (68 + q) (by omega)
  have M4 := Lib.hid ((M3.out.put (M3.out.pl.si1 hq s)).drew)
  go_wp2
  go_region
  clear s0 g0 d0 d1 lp3 m0 ml
  have s0 := M4.out.pl.si q hq
  rw [show updN si q (s + 1) q = s + 1 from if_pos rfl, show ((s + 1 : Nat) : Int) = (s : Int) + 1 from rfl] at s0
  have t0 := M4.out.pl.sw q hq
  have g0 := M4.out.pl.fr (132 + q) (by omega)
  have d0 := M4.out.pl.c0
  have lp4 := M4.out.pl.lt
  have M5 := Lib.hid (M4.out.put (M4.out.pl.sw0 hq))
  generalize hw4 : World.drew _ = w4 at *
  clear hw4
  go_wp2
  go_ret
  refine ⟨rfl, v, k + 1, ups, dn, _, _, _, _, M5.out, HI.out.turn hq (Nat.le_refl _) ⟨by show x.op ≤ 3; exact hok.op, (fun hn => absurd hn hp), fun _ => HLD⟩ (fun _ => hop2) (fun _ => ?_) (fun _ => .inl rfl) (fun _ _ => rfl) (fun j hj => if_neg hj) (fun j hj => if_neg hj) ?_ ?_, .inl ?_⟩
  · show updN si q (s + 1) q % 2 = 1
    rw [show updN si q (s + 1) q = s + 1 from if_pos rfl]; omega
  · rw [show updN si q (s + 1) q = s + 1 from if_pos rfl]; omega
  · rw [show updN sw q 0 q = 0 from if_pos rfl]; omega
  · rw [getD_set _ _ _ _ _ (by rw [HI.out.len]; exact hq), if_pos rfl, hx]
    unfold rankV
    simp [hp, hl]

set_option maxHeartbeats 3200000 in
theorem pstep_fail (h : HoM w top c b bw pb wr v k ups dn calls ops si sw) (I : HoI top i v k ups dn calls ops si sw) (hi : i < 100000) (htop : top ≤ 4) (q : Nat) (hq : q < 64) (x : CallV) (hx : calls.getD q noCall = x) (hp : x.op ≠ 0) (hl : x.ld = true) (hv : ¬ v = x.old) :
    Calls Try.prog 36 #[.pointer (some ⟨pb, 0, none⟩), .int .i64 (q : Int)] wr (PsEnd w top c b bw pb i v calls q) := by
  obtain ⟨lc, lb, lbw, lpb⟩ := h.lts
  have hki := I.ki
  have hui := I.ui
  have hvud := I.vud
  have hvt := I.vt
  have d0 := h.pl.c0
  have d1 := h.pl.c1
  have hwb := h.bel.size
  have HH := Lib.hid h
  have HI := Lib.hid I
  have q0 : (0 : Int) ≤ (q : Int) := by omega
  have q1 : (q : Int) < 64 := by omega

  have hp : x.op ≠ 0 := by assumption
  have hok := I.okc q hq
  rw [hx] at hok
  have hst : stepO top v x = ⟨false, 0, 0, v, ⟨x.op, false, 0⟩⟩ := by
    unfold stepO; rw [hl, if_pos rfl, if_neg hv]
  have HP := Lib.hid (pend_at _ c b bw top v k calls h.cnt q hq x hx)
  rw [decide_eq_true hp] at HP
  have HV := Lib.hid (value_eq _ c b bw top v k calls h.cnt (by omega) (v : Int) rfl)
  have HS := Lib.hid (step_any _ c b bw top v k calls h.cnt (by omega) I.vt (by omega) q hq x hx hp hok)
  rw [hst] at HS
  dsimp only at HS
  have hop2 := I.opc q hq (by rw [hx]; exact hp)
  rw [hx] at hop2
  have hpar := I.par q hq (by rw [hx]; exact hp)
  rw [hx, hl] at hpar
  have hsb := I.sib q
  have hso : 1 ≤ sw q := by
    have := I.old q hq (by rw [hx]; exact hl)
    rw [hx] at this
    omega
  have hswb := I.swb q
  obtain ⟨s, hs⟩ : ∃ s, si q = s := ⟨_, rfl⟩
  rw [hs] at hpar hsb
  have HSQ := Lib.hid hs
  clear hs
  have hs2 : s % 2 = 1 := by simpa using hpar
  have hm1 : ((s : Int) + 1) % 2 = 0 := by omega
  have hm2 : ((s : Int) + 1).tmod 2 = 0 := by rw [Int.tmod_eq_emod_of_nonneg (by omega)]; exact hm1
  clear hpar hs2

  clear h I hst
  go_enter Try.func36, Try.ntmps36
  go_wp2_with fail
  with_reducible refine HP.out.mono ?_
  rintro e w1 ⟨rfl, hw⟩
  subst hw
  go_wp2_with fail
  with_reducible refine HV.out.mono ?_
  rintro e w1 ⟨rfl, hw⟩
  subst hw

  go_wp2_with fail
  with_reducible refine HS.out.mono ?_
  rintro e w3 ⟨rfl, hc3, hf3⟩
  have M3 := Lib.hid ((HH.out.act hc3 hf3).alloc (.cells #[.bool false, .int .i64 0, .int .i64 0] 71))
  have K3 := Lib.hid (BlkL.new w3 [.bool false, .int .i64 0, .int .i64 0] 71)
  have hz3 : w.heap.size ≤ w3.heap.size := (HH.out.act hc3 hf3).bel.size
  have hzp : pb ≠ w3.heap.size := by have := hf3.size; omega
  clear d0 d1
  have d0 := M3.out.pl.c0
  have d1 := M3.out.pl.c1
  have lp3 := M3.out.pl.lt
  have HV3 := Lib.hid (value_eq _ c b bw top (v) (k + 1) _ M3.out.cnt (by omega) (v : Int) (by omega))
  clear hc3 hf3
  go_wp2_with fail
  with_reducible refine HV3.out.mono ?_
  rintro e w1 ⟨rfl, hw⟩
  subst hw

  have m0 := K3.out.cell 0 _ rfl
  have ml := K3.out.lt
  have s0 := M3.out.pl.si q hq
  rw [HSQ.out] at s0
  have g0 := M3.out.pl.fr (68 + q) (by omega)
  have M4 := Lib.hid ((M3.out.put (M3.out.pl.si1 hq s)).drew)
  go_wp2
  go_region
  clear s0 g0 d0 d1 lp3 m0 ml
  have s0 := M4.out.pl.si q hq
  rw [show updN si q (s + 1) q = s + 1 from if_pos rfl, show ((s + 1 : Nat) : Int) = (s : Int) + 1 from rfl] at s0
  have t0 := M4.out.pl.sw q hq
  have g0 := M4.out.pl.fr (132 + q) (by omega)
  have d0 := M4.out.pl.c0
  have lp4 := M4.out.pl.lt
  generalize hw4 : World.drew _ = w4 at *
  clear hw4
  generalize sw q = sq at *
  have hsq : ¬ (sq : Int) = 0 := by omega
  go_wp2
  go_ret
  refine ⟨rfl, v, k + 1, ups, dn, _, _, _, _, M4.out, HI.out.turn hq (Nat.le_refl _) ⟨by show x.op ≤ 3; exact hok.op, (fun hn => absurd hn hp), (fun hn => by cases hn)⟩ (fun _ => hop2) (fun _ => ?_) (fun hn => by cases hn) (fun _ _ => rfl) (fun j hj => if_neg hj) (fun _ _ => rfl) ?_ (Nat.le_succ_of_le (HI.out.swb q)), .inl ?_⟩
  · show updN si q (s + 1) q % 2 = 0
    rw [show updN si q (s + 1) q = s + 1 from if_pos rfl]; omega
  · rw [show updN si q (s + 1) q = s + 1 from if_pos rfl]; omega
  · rw [getD_set _ _ _ _ _ (by rw [HI.out.len]; exact hq), if_pos rfl, hx]
    unfold rankV
    simp [hp, hl, hv]

end
end Go.Proofs.Ytddadlomkodgcaa
