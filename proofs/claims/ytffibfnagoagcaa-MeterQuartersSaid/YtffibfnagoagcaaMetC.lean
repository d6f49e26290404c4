/- Contract: meter.Add, of a number. -/
import Derived.Test.YtffibfnagoagcaaMetB
namespace Go.Proofs.Ytffibfnagoagcaa
open Go.RowKit
set_option maxRecDepth 100000
set_option linter.unusedVariables false


set_option maxHeartbeats 1600000 in
theorem addP_inf (w : World) (m : MV) (x : Nat) (h : m.Ok) (hx : x ≤ 18446744073709551615) (hn : -1152921504606846976 ≤ m.n) (hn2 : m.n ≤ 1152921504606846976) (nx : nanB x = false) (hf : fnB (fop .add (canB m.sum) (canB x)) = false) :
    Calls Try.prog 16 #[m.val, .float .f64 x] w (ME w (addC m.can (canB x))) := by
  have NX := fun w => isNaN_any w x hx
  rw [nx] at NX
  rw [addC_num (c := m.can) (x := canB x) (b := false) ((nan_can x).trans nx) hf, show (bif false then fop .add m.can.lost (missC m.can.sum (canB x) (fop .add m.can.sum (canB x))) else m.can.lost) = m.can.lost from rfl]
  obtain ⟨n, bad, su, lo, lw, hi, me, sp⟩ := m
  simp only [MV.val, MV.can] at *
  have HX := Lib.hid h
  have HF0 := Lib.hid hf
  obtain ⟨rl, hrl, crl, HL⟩ := leastP_can lw x h.low hx
  obtain ⟨rh, hrh, crh, HH⟩ := mostP_can hi x h.high hx
  have CRL := Lib.hid crl
  have CRH := Lib.hid crh
  clear h crl crh hf
  have kst : ∀ (a : Addr) (x : Nat) (w : World), (store a (.float .f64 x)).run Try.prog w = stored Try.prog w a (.float .f64 x) .plain := fun a x w => run_store _ _ _ _ _ rfl
  go_enter Try.func16, Try.ntmps16
  go_wp2_with fail
  with_reducible refine (NX _).mono ?_
  rintro e w1 ⟨rfl, rfl⟩
  go_wp2_with fail
  refine upon_float rfl ?_
  intro s ks ls cs
  have HF : ∀ w, Calls Try.prog 37 #[.float .f64 s] w fun e w' => e = .returned (.bool false) ∧ w = w' := fun w => by
    have := isFin_any w s ls
    rw [← fn_can s, cs.out, HF0.out] at this
    exact this
  have HMS := fun w => missed_any w su x s HX.out.sum hx ls
  rw [cs.out] at HMS
  go_wp2_with fail
  with_reducible refine (HF _).mono ?_
  rintro e w1 ⟨rfl, rfl⟩
  go_wp2_with fail
  go_region_with
    (first
      | ((with_reducible refine (HL _).mono ?_); rintro e w1 ⟨rfl, rfl⟩)
      | ((with_reducible refine (HH _).mono ?_); rintro e w1 ⟨rfl, rfl⟩))
  all_goals
    go_wp2_with fail
    refine upon_float rfl ?_
    intro d kd ld cd
    go_wp2_with fail
    refine upon_float rfl ?_
    intro q kq lq cq
    go_wp2_with fail
    refine upon_float rfl ?_
    intro u ku lu cu
    go_wp2_with fail
    refine upon_float rfl ?_
    intro r kr lr cr
    go_wp2_with fail
    refine upon_float rfl ?_
    intro p kp lp cp
    go_wp2_with fail
    refine upon_float rfl ?_
    intro z kz lz cz
    go_wp2
    refine bodyPost_ret (v := (MV.val ⟨n + 1, bad, s, lo, rl, rh, u, z⟩)) (by simp [results, Try.results16, go_sem, MV.val]) rfl ⟨⟨n + 1, bad, s, lo, rl, rh, u, z⟩, rfl, ⟨ls, HX.out.lost, hrl, hrh, lu, lz⟩, ?_, ?_⟩
    · simp only [MV.can, cs.out, CRL.out, CRH.out, cz.out, cp.out, cr.out, cu.out, cq.out, cd.out]
    · repeat' first
        | with_reducible exact Below.refl _ _
        | with_reducible refine Below.setCell ?_ (by simp) _
        | with_reducible refine Below.alloc ?_ (by simp) _
        | with_reducible refine below_drewN ?_ _
        | with_reducible refine Below.drew ?_


set_option maxHeartbeats 6400000 in
theorem addP_fin (w : World) (m : MV) (x : Nat) (h : m.Ok) (hx : x ≤ 18446744073709551615) (hn : -1152921504606846976 ≤ m.n) (hn2 : m.n ≤ 1152921504606846976) (nx : nanB x = false) (hf : fnB (fop .add (canB m.sum) (canB x)) = true) :
    Calls Try.prog 16 #[m.val, .float .f64 x] w (ME w (addC m.can (canB x))) := by
  have NX := fun w => isNaN_any w x hx
  rw [nx] at NX
  rw [addC_num (c := m.can) (x := canB x) (b := true) ((nan_can x).trans nx) hf, show (bif true then fop .add m.can.lost (missC m.can.sum (canB x) (fop .add m.can.sum (canB x))) else m.can.lost) = fop .add m.can.lost (missC m.can.sum (canB x) (fop .add m.can.sum (canB x))) from rfl]
  obtain ⟨n, bad, su, lo, lw, hi, me, sp⟩ := m
  simp only [MV.val, MV.can] at *
  have HX := Lib.hid h
  have HF0 := Lib.hid hf
  obtain ⟨rl, hrl, crl, HL⟩ := leastP_can lw x h.low hx
  obtain ⟨rh, hrh, crh, HH⟩ := mostP_can hi x h.high hx
  have CRL := Lib.hid crl
  have CRH := Lib.hid crh
  clear h crl crh hf
  have kst : ∀ (a : Addr) (x : Nat) (w : World), (store a (.float .f64 x)).run Try.prog w = stored Try.prog w a (.float .f64 x) .plain := fun a x w => run_store _ _ _ _ _ rfl
  go_enter Try.func16, Try.ntmps16
  go_wp2_with fail
  with_reducible refine (NX _).mono ?_
  rintro e w1 ⟨rfl, rfl⟩
  go_wp2_with fail
  refine upon_float rfl ?_
  intro s ks ls cs
  have HF : ∀ w, Calls Try.prog 37 #[.float .f64 s] w fun e w' => e = .returned (.bool true) ∧ w = w' := fun w => by
    have := isFin_any w s ls
    rw [← fn_can s, cs.out, HF0.out] at this
    exact this
  have HMS := fun w => missed_any w su x s HX.out.sum hx ls
  rw [cs.out] at HMS
  go_wp2_with fail
  with_reducible refine (HF _).mono ?_
  rintro e w1 ⟨rfl, rfl⟩
  go_wp2_with fail
  go_region_with
    (first
      | ((with_reducible refine (HMS _).mono ?_); rintro e w2 ⟨g, rfl, lg, cg, kg, rfl⟩; have CG := Lib.hid cg; clear cg)
      | (refine upon_float rfl ?_; intro lo2 klo2 llo2 clo2))
  all_goals
    go_wp2_with fail
    go_region_with
      (first
        | ((with_reducible refine (HL _).mono ?_); rintro e w1 ⟨rfl, rfl⟩)
        | ((with_reducible refine (HH _).mono ?_); rintro e w1 ⟨rfl, rfl⟩))
    all_goals
      go_wp2_with fail
      refine upon_float rfl ?_
      intro d kd ld cd
      go_wp2_with fail
      refine upon_float rfl ?_
      intro q kq lq cq
      go_wp2_with fail
      refine upon_float rfl ?_
      intro u ku lu cu
      go_wp2_with fail
      refine upon_float rfl ?_
      intro r kr lr cr
      go_wp2_with fail
      refine upon_float rfl ?_
      intro p kp lp cp
      go_wp2_with fail
      refine upon_float rfl ?_
      intro z kz lz cz
      go_wp2
      refine bodyPost_ret (v := (MV.val ⟨n + 1, bad, s, lo2, rl, rh, u, z⟩)) (by simp [results, Try.results16, go_sem, MV.val]) rfl ⟨⟨n + 1, bad, s, lo2, rl, rh, u, z⟩, rfl, ⟨ls, llo2, hrl, hrh, lu, lz⟩, ?_, ?_⟩
      · simp only [MV.can, cs.out, clo2.out, CG.out, CRL.out, CRH.out, cz.out, cp.out, cr.out, cu.out, cq.out, cd.out]
      · repeat' first
          | with_reducible exact Below.refl _ _
          | with_reducible refine Below.setCell ?_ (by simp) _
          | with_reducible refine Below.alloc ?_ (by simp) _
          | with_reducible refine below_drewN ?_ _
          | with_reducible refine Below.drew ?_

theorem addP_any (w : World) (m : MV) (x : Nat) (h : m.Ok) (hx : x ≤ 18446744073709551615) (hn : -1152921504606846976 ≤ m.n) (hn2 : m.n ≤ 1152921504606846976) (hb : -1152921504606846976 ≤ m.bad) (hb2 : m.bad ≤ 1152921504606846976) :
    Calls Try.prog 16 #[m.val, .float .f64 x] w (ME w (addC m.can (canB x))) := by
  rcases nx : nanB x with _ | _
  · rcases hf : fnB (fop .add (canB m.sum) (canB x)) with _ | _
    · exact addP_inf w m x h hx hn hn2 nx hf
    · exact addP_fin w m x h hx hn hn2 nx hf
  · exact addP_nan w m x h hx hb hb2 nx
end Go.Proofs.Ytffibfnagoagcaa
