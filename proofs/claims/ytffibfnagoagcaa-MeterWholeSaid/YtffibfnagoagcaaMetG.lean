/- Contracts: areCounts, figures of meter. -/
import Derived.Test.YtffibfnagoagcaaMetC
import Derived.Test.YtffibfnagoagcaaMetL
import Derived.Deep.RegionHeld3
import Derived.BigRegion
import Derived.Deep.QuietTactic
import Derived.BigQuiet
namespace Go.Proofs.Ytffibfnagoagcaa
open Go.RowKit
set_option maxRecDepth 100000
set_option linter.unusedVariables false

def cntB (n k : Int) : Bool := decide (0 ≤ n) && (decide (0 ≤ k) && decide (n ≤ 9007199254740992 - k))
theorem cntB_iff {n k : Int} : cntB n k = true ↔ 0 ≤ n ∧ 0 ≤ k ∧ n + k ≤ 9007199254740992 := by unfold cntB; simp; omega
theorem areCounts_any (w : World) (n k : Int) (hk : k ≤ 9223372036854775807) : Calls Try.prog 49 #[.int .i64 n, .int .i64 k] w fun e w' => e = .returned (.bool (cntB n k)) ∧ w = w' := by
  by_cases h1 : (0 : Int) ≤ n
  · by_cases h2 : (0 : Int) ≤ k
    · have e : cntB n k = decide (n ≤ 9007199254740992 - k) := by unfold cntB; simp [h1, h2]
      rw [e]
      clear e
      go_enter Try.func49, Try.ntmps49
      go_wp2
      go_ret
      exact ⟨rfl, rfl⟩
    · have e : cntB n k = false := by unfold cntB; simp [h2]
      rw [e]
      clear e
      go_enter Try.func49, Try.ntmps49
      go_wp2
      go_ret
      exact ⟨rfl, rfl⟩
  · have e : cntB n k = false := by unfold cntB; simp [h1]
    rw [e]
    clear e
    go_enter Try.func49, Try.ntmps49
    go_wp2
    go_ret
    exact ⟨rfl, rfl⟩
/-- What two meters of numbers make together, NaNs as one. -/
def mrgC (c d : MV) : MV :=
  let s := fop .add c.sum d.sum
  let e := if fnB s then missC c.sum d.sum s else 0
  let n := canB (floatOfInt FloatKind.f64 c.n)
  let k := canB (floatOfInt FloatKind.f64 d.n)
  let t := canB (floatOfInt FloatKind.f64 (c.n + d.n))
  let dd := fop .sub d.mean c.mean
  ⟨0, 0, s, fop .add (fop .add c.lost d.lost) e, canB (leastB c.low d.low), canB (mostB c.high d.high), fop .add c.mean (fop .mul dd (fop .quo k t)), fop .add (fop .add c.spr d.spr) (fop .mul (fop .mul dd dd) (fop .quo (fop .mul n k) t))⟩
set_option maxHeartbeats 1600000 in
theorem figs_a0 (w : World) (a b : MV) (h : a.n = 0) : Calls Try.prog 50 #[a.val, b.val] w fun e w' => e = .returned b.val ∧ Below w.heap.size w w' := by
  obtain ⟨an, abad, asu, alo, alw, ahi, ame, asp⟩ := a
  obtain ⟨bn, bbad, bsu, blo, blw, bhi, bme, bsp⟩ := b
  simp only at h
  subst h
  simp only [MV.val]
  have kst : ∀ (a : Addr) (x : Nat) (w : World), (store a (.float .f64 x)).run Try.prog w = stored Try.prog w a (.float .f64 x) .plain := fun a x w => run_store _ _ _ _ _ rfl
  go_enter Try.func50, Try.ntmps50
  go_wp2
  refine bodyPost_ret (v := MV.val ⟨bn, bbad, bsu, blo, blw, bhi, bme, bsp⟩) (by simp [results, Try.results50, go_sem, MV.val]) rfl ⟨rfl, ?_⟩
  repeat' first
    | with_reducible exact Below.refl _ _
    | with_reducible refine Below.setCell ?_ (by simp <;> omega) _
    | with_reducible refine Below.alloc ?_ (by simp <;> omega) _
    | with_reducible refine below_drewN ?_ _
    | with_reducible refine Below.drew ?_
set_option maxHeartbeats 1600000 in
theorem figs_b0 (w : World) (a b : MV) (h0 : ¬ a.n = 0) (h : b.n = 0) : Calls Try.prog 50 #[a.val, b.val] w fun e w' => e = .returned a.val ∧ Below w.heap.size w w' := by
  obtain ⟨an, abad, asu, alo, alw, ahi, ame, asp⟩ := a
  obtain ⟨bn, bbad, bsu, blo, blw, bhi, bme, bsp⟩ := b
  simp only at h h0
  subst h
  simp only [MV.val]
  have kst : ∀ (a : Addr) (x : Nat) (w : World), (store a (.float .f64 x)).run Try.prog w = stored Try.prog w a (.float .f64 x) .plain := fun a x w => run_store _ _ _ _ _ rfl
  go_enter Try.func50, Try.ntmps50
  go_wp2
  refine bodyPost_ret (v := MV.val ⟨an, abad, asu, alo, alw, ahi, ame, asp⟩) (by simp [results, Try.results50, go_sem, MV.val]) rfl ⟨rfl, ?_⟩
  repeat' first
    | with_reducible exact Below.refl _ _
    | with_reducible refine Below.setCell ?_ (by simp <;> omega) _
    | with_reducible refine Below.alloc ?_ (by simp <;> omega) _
    | with_reducible refine below_drewN ?_ _
    | with_reducible refine Below.drew ?_
set_option maxHeartbeats 6400000 in
theorem figs_both (w : World) (a b : MV) (oka : a.Ok) (okb : b.Ok) (h0 : ¬ a.n = 0) (h : ¬ b.n = 0) (hn : 0 ≤ a.n ∧ 0 ≤ b.n ∧ a.n + b.n ≤ 9007199254740992) (bo : Bool) (hf : fnB (fop .add (canB a.sum) (canB b.sum)) = bo) (s : Nat) (hs : floatBits .add .f64 a.sum b.sum = some s) :
    Calls Try.prog 50 #[a.val, b.val] w fun e w' => ∃ m : MV, e = .returned m.val ∧ m.Ok ∧ m.can = mrgC a.can b.can ∧ Below w.heap.size w w' := by
  obtain ⟨an, abad, asu, alo, alw, ahi, ame, asp⟩ := a
  obtain ⟨bn, bbad, bsu, blo, blw, bhi, bme, bsp⟩ := b
  simp only at h h0 hn hf hs
  have hv : ∀ w, fV .add asu bsu w = s := fun w => by unfold fV; rw [hs]; rfl
  have ls : s ≤ 18446744073709551615 := by rw [← hv w]; exact fV_le _ _ _ _
  have cs : Hid (canB s = fop .add (canB asu) (canB bsu)) := Lib.hid (by rw [← hv w]; exact can_fV _ _ _ _)
  have hadd : ∀ (t : TypeId) (w : World), (binOp .add t (.float .f64 asu) (.float .f64 bsu)).run Try.prog w = .ok (.float .f64 s) w := fun t w => by
    rw [run_fV Try.prog rfl, hv]
    have e : fK .add asu bsu = 0 := by unfold fK; rw [hs]; rfl
    rw [e]; rfl
  clear hv
  obtain ⟨rl, hrl, crl, HL⟩ := leastP_can alw blw oka.low okb.low
  obtain ⟨rh, hrh, crh, HH⟩ := mostP_can ahi bhi oka.high okb.high
  have CRL := Lib.hid crl
  have CRH := Lib.hid crh
  have HF0 := Lib.hid hf
  have HHL := Lib.hid HL
  have HHH := Lib.hid HH
  have OKA := Lib.hid oka
  have OKB := Lib.hid okb
  clear crl crh hf HL HH oka okb
  have kst : ∀ (a : Addr) (x : Nat) (w : World), (store a (.float .f64 x)).run Try.prog w = stored Try.prog w a (.float .f64 x) .plain := fun a x w => run_store _ _ _ _ _ rfl
  simp only [MV.val, MV.can]
  go_enter Try.func50, Try.ntmps50
  go_wp2
  have K1 := Lib.hid (((BlkL.new w [.int .i64 an, .int .i64 abad, .float .f64 asu, .float .f64 alo, .float .f64 alw, .float .f64 ahi, .float .f64 ame, .float .f64 asp] 29).alloc (.cells #[.int .i64 bn, .int .i64 bbad, .float .f64 bsu, .float .f64 blo, .float .f64 blw, .float .f64 bhi, .float .f64 bme, .float .f64 bsp] 29)).alloc (.cells #[.int .i64 0, .int .i64 0, .float .f64 0, .float .f64 0, .float .f64 0, .float .f64 0, .float .f64 0, .float .f64 0] 29))
  have k2 := (BlkL.new (w.alloc (.cells #[.int .i64 an, .int .i64 abad, .float .f64 asu, .float .f64 alo, .float .f64 alw, .float .f64 ahi, .float .f64 ame, .float .f64 asp] 29)) [.int .i64 bn, .int .i64 bbad, .float .f64 bsu, .float .f64 blo, .float .f64 blw, .float .f64 bhi, .float .f64 bme, .float .f64 bsp] 29).alloc (.cells #[.int .i64 0, .int .i64 0, .float .f64 0, .float .f64 0, .float .f64 0, .float .f64 0, .float .f64 0, .float .f64 0] 29)
  have k3 := BlkL.new ((w.alloc (.cells #[.int .i64 an, .int .i64 abad, .float .f64 asu, .float .f64 alo, .float .f64 alw, .float .f64 ahi, .float .f64 ame, .float .f64 asp] 29)).alloc (.cells #[.int .i64 bn, .int .i64 bbad, .float .f64 bsu, .float .f64 blo, .float .f64 blw, .float .f64 bhi, .float .f64 bme, .float .f64 bsp] 29)) [.int .i64 0, .int .i64 0, .float .f64 0, .float .f64 0, .float .f64 0, .float .f64 0, .float .f64 0, .float .f64 0] 29
  simp only [World.size_alloc] at k2 k3
  have K2 := Lib.hid k2
  have K3 := Lib.hid k3
  have HB := Lib.hid ((((Below.refl w.heap.size w).alloc (Nat.le_refl _) (.cells #[.int .i64 an, .int .i64 abad, .float .f64 asu, .float .f64 alo, .float .f64 alw, .float .f64 ahi, .float .f64 ame, .float .f64 asp] 29)).alloc (by simp) (.cells #[.int .i64 bn, .int .i64 bbad, .float .f64 bsu, .float .f64 blo, .float .f64 blw, .float .f64 bhi, .float .f64 bme, .float .f64 bsp] 29)).alloc (by simp; omega) (.cells #[.int .i64 0, .int .i64 0, .float .f64 0, .float .f64 0, .float .f64 0, .float .f64 0, .float .f64 0, .float .f64 0] 29))
  have hsz : (((w.alloc (.cells #[.int .i64 an, .int .i64 abad, .float .f64 asu, .float .f64 alo, .float .f64 alw, .float .f64 ahi, .float .f64 ame, .float .f64 asp] 29)).alloc (.cells #[.int .i64 bn, .int .i64 bbad, .float .f64 bsu, .float .f64 blo, .float .f64 blw, .float .f64 bhi, .float .f64 bme, .float .f64 bsp] 29)).alloc (.cells #[.int .i64 0, .int .i64 0, .float .f64 0, .float .f64 0, .float .f64 0, .float .f64 0, .float .f64 0, .float .f64 0] 29)).heap.size = w.heap.size + 1 + 1 + 1 := by simp
  clear k2 k3
  generalize hW : ((w.alloc (.cells #[.int .i64 an, .int .i64 abad, .float .f64 asu, .float .f64 alo, .float .f64 alw, .float .f64 ahi, .float .f64 ame, .float .f64 asp] 29)).alloc (.cells #[.int .i64 bn, .int .i64 bbad, .float .f64 bsu, .float .f64 blo, .float .f64 blw, .float .f64 bhi, .float .f64 bme, .float .f64 bsp] 29)).alloc (.cells #[.int .i64 0, .int .i64 0, .float .f64 0, .float .f64 0, .float .f64 0, .float .f64 0, .float .f64 0, .float .f64 0] 29) = wA at *
  generalize hz : w.heap.size = z at *
  go_region_held3 (fun w' => w'.cell? ⟨z, 0, none⟩ = some (.int .i64 an) ∧ w'.cell? ⟨z, 1, none⟩ = some (.int .i64 abad) ∧ w'.cell? ⟨z, 2, none⟩ = some (.float .f64 asu) ∧ w'.cell? ⟨z, 3, none⟩ = some (.float .f64 alo) ∧ w'.cell? ⟨z, 4, none⟩ = some (.float .f64 alw) ∧ w'.cell? ⟨z, 5, none⟩ = some (.float .f64 ahi) ∧ w'.cell? ⟨z, 6, none⟩ = some (.float .f64 ame) ∧ w'.cell? ⟨z, 7, none⟩ = some (.float .f64 asp) ∧ w'.cell? ⟨z + 1, 0, none⟩ = some (.int .i64 bn) ∧ w'.cell? ⟨z + 1, 1, none⟩ = some (.int .i64 bbad) ∧ w'.cell? ⟨z + 1, 2, none⟩ = some (.float .f64 bsu) ∧ w'.cell? ⟨z + 1, 3, none⟩ = some (.float .f64 blo) ∧ w'.cell? ⟨z + 1, 4, none⟩ = some (.float .f64 blw) ∧ w'.cell? ⟨z + 1, 5, none⟩ = some (.float .f64 bhi) ∧ w'.cell? ⟨z + 1, 6, none⟩ = some (.float .f64 bme) ∧ w'.cell? ⟨z + 1, 7, none⟩ = some (.float .f64 bsp))
    ((refine ⟨BlkL.cell (xs := [.int .i64 an, .int .i64 abad, .float .f64 asu, .float .f64 alo, .float .f64 alw, .float .f64 ahi, .float .f64 ame, .float .f64 asp]) ?_ 0 _ rfl, BlkL.cell (xs := [.int .i64 an, .int .i64 abad, .float .f64 asu, .float .f64 alo, .float .f64 alw, .float .f64 ahi, .float .f64 ame, .float .f64 asp]) ?_ 1 _ rfl, BlkL.cell (xs := [.int .i64 an, .int .i64 abad, .float .f64 asu, .float .f64 alo, .float .f64 alw, .float .f64 ahi, .float .f64 ame, .float .f64 asp]) ?_ 2 _ rfl, BlkL.cell (xs := [.int .i64 an, .int .i64 abad, .float .f64 asu, .float .f64 alo, .float .f64 alw, .float .f64 ahi, .float .f64 ame, .float .f64 asp]) ?_ 3 _ rfl, BlkL.cell (xs := [.int .i64 an, .int .i64 abad, .float .f64 asu, .float .f64 alo, .float .f64 alw, .float .f64 ahi, .float .f64 ame, .float .f64 asp]) ?_ 4 _ rfl, BlkL.cell (xs := [.int .i64 an, .int .i64 abad, .float .f64 asu, .float .f64 alo, .float .f64 alw, .float .f64 ahi, .float .f64 ame, .float .f64 asp]) ?_ 5 _ rfl, BlkL.cell (xs := [.int .i64 an, .int .i64 abad, .float .f64 asu, .float .f64 alo, .float .f64 alw, .float .f64 ahi, .float .f64 ame, .float .f64 asp]) ?_ 6 _ rfl, BlkL.cell (xs := [.int .i64 an, .int .i64 abad, .float .f64 asu, .float .f64 alo, .float .f64 alw, .float .f64 ahi, .float .f64 ame, .float .f64 asp]) ?_ 7 _ rfl, BlkL.cell (xs := [.int .i64 bn, .int .i64 bbad, .float .f64 bsu, .float .f64 blo, .float .f64 blw, .float .f64 bhi, .float .f64 bme, .float .f64 bsp]) ?_ 0 _ rfl, BlkL.cell (xs := [.int .i64 bn, .int .i64 bbad, .float .f64 bsu, .float .f64 blo, .float .f64 blw, .float .f64 bhi, .float .f64 bme, .float .f64 bsp]) ?_ 1 _ rfl, BlkL.cell (xs := [.int .i64 bn, .int .i64 bbad, .float .f64 bsu, .float .f64 blo, .float .f64 blw, .float .f64 bhi, .float .f64 bme, .float .f64 bsp]) ?_ 2 _ rfl, BlkL.cell (xs := [.int .i64 bn, .int .i64 bbad, .float .f64 bsu, .float .f64 blo, .float .f64 blw, .float .f64 bhi, .float .f64 bme, .float .f64 bsp]) ?_ 3 _ rfl, BlkL.cell (xs := [.int .i64 bn, .int .i64 bbad, .float .f64 bsu, .float .f64 blo, .float .f64 blw, .float .f64 bhi, .float .f64 bme, .float .f64 bsp]) ?_ 4 _ rfl, BlkL.cell (xs := [.int .i64 bn, .int .i64 bbad, .float .f64 bsu, .float .f64 blo, .float .f64 blw, .float .f64 bhi, .float .f64 bme, .float .f64 bsp]) ?_ 5 _ rfl, BlkL.cell (xs := [.int .i64 bn, .int .i64 bbad, .float .f64 bsu, .float .f64 blo, .float .f64 blw, .float .f64 bhi, .float .f64 bme, .float .f64 bsp]) ?_ 6 _ rfl, BlkL.cell (xs := [.int .i64 bn, .int .i64 bbad, .float .f64 bsu, .float .f64 blo, .float .f64 blw, .float .f64 bhi, .float .f64 bme, .float .f64 bsp]) ?_ 7 _ rfl⟩ <;> (repeat' first | with_reducible exact K1.out | with_reducible exact K2.out | with_reducible refine BlkL.drew ?_ | with_reducible refine BlkL.drewN ?_ _ | with_reducible refine BlkL.alloc ?_ _)))
    (first
      | ((with_reducible refine (HHL.out _).mono ?_); rintro e wx ⟨rfl, rfl⟩)
      | ((with_reducible refine (HHH.out _).mono ?_); rintro e wy ⟨rfl, rfl⟩)
      | fail)
  all_goals
    subst hW
    clear K1 K2 K3 HB hsz
    subst hz
    have HF : ∀ w, Calls Try.prog 37 #[.float .f64 s] w fun e w' => e = .returned (.bool bo) ∧ w = w' := fun w => by
      have := isFin_any w s ls
      rw [← fn_can s, cs.out, HF0.out] at this
      exact this
    have HMS := fun w => missed_any w asu bsu s OKA.out.sum OKB.out.sum ls
    rw [cs.out] at HMS
    have hsum : (an : Int) + bn ≤ 9007199254740992 := hn.2.2
    have hn0 := hn.1
    have hn1 := hn.2.1
    go_wp2_with fail
    with_reducible refine (HF _).mono ?_
    rintro e w1 ⟨rfl, rfl⟩
    rcases bo with _ | _
    · skip
      go_wp2_with fail
      refine upon_float rfl ?_
      intro p1 kp1 lp1 cp1
      go_wp2_with fail
      refine upon_float rfl ?_
      intro p2 kp2 lp2 cp2
      go_wp2_with fail
      go_quiet (fail)
      go_wp2_with fail
      refine upon_float rfl ?_
      intro dd kdd ldd cdd
      go_wp2_with fail
      refine upon_float rfl ?_
      intro sh ksh lsh csh
      go_wp2_with fail
      refine upon_float rfl ?_
      intro mu kmu lmu cmu
      go_wp2_with fail
      refine upon_float rfl ?_
      intro me2 kme2 lme2 cme2
      go_wp2_with fail
      refine upon_float rfl ?_
      intro sp1 ksp1 lsp1 csp1
      go_wp2_with fail
      refine upon_float rfl ?_
      intro sq ksq lsq csq
      go_wp2_with fail
      refine upon_float rfl ?_
      intro nk knk lnk cnk
      go_wp2_with fail
      refine upon_float rfl ?_
      intro wt kwt lwt cwt
      go_wp2_with fail
      refine upon_float rfl ?_
      intro pr kpr lpr cpr
      go_wp2_with fail
      refine upon_float rfl ?_
      intro sp2 ksp2 lsp2 csp2
      go_wp2
      refine bodyPost_ret (v := (MV.val ⟨0, 0, s, p2, rl, rh, me2, sp2⟩)) (by simp [results, Try.results50, go_sem, MV.val]) rfl ⟨⟨0, 0, s, p2, rl, rh, me2, sp2⟩, rfl, ⟨ls, lp2, hrl, hrh, lme2, lsp2⟩, ?_, ?_⟩
      · unfold mrgC
        simp only [HF0.out, cs.out, CRL.out, CRH.out, cp1.out, cp2.out,  cdd.out, csh.out, cmu.out, cme2.out, csp1.out, csq.out, cnk.out, cwt.out, cpr.out, csp2.out]
        try rfl
      · repeat' first
          | with_reducible exact Below.refl _ _
          | with_reducible refine Below.setCell ?_ (by simp <;> omega) _
          | with_reducible refine Below.alloc ?_ (by simp <;> omega) _
          | with_reducible refine below_drewN ?_ _
          | with_reducible refine Below.drew ?_
    · go_wp2_with fail
      with_reducible refine (HMS _).mono ?_
      rintro e w2 ⟨g, rfl, lg, cg, kg, rfl⟩
      have CG := Lib.hid cg
      clear cg
      go_wp2_with fail
      refine upon_float rfl ?_
      intro p1 kp1 lp1 cp1
      go_wp2_with fail
      refine upon_float rfl ?_
      intro p2 kp2 lp2 cp2
      go_wp2_with fail
      go_quiet (fail)
      go_wp2_with fail
      refine upon_float rfl ?_
      intro dd kdd ldd cdd
      go_wp2_with fail
      refine upon_float rfl ?_
      intro sh ksh lsh csh
      go_wp2_with fail
      refine upon_float rfl ?_
      intro mu kmu lmu cmu
      go_wp2_with fail
      refine upon_float rfl ?_
      intro me2 kme2 lme2 cme2
      go_wp2_with fail
      refine upon_float rfl ?_
      intro sp1 ksp1 lsp1 csp1
      go_wp2_with fail
      refine upon_float rfl ?_
      intro sq ksq lsq csq
      go_wp2_with fail
      refine upon_float rfl ?_
      intro nk knk lnk cnk
      go_wp2_with fail
      refine upon_float rfl ?_
      intro wt kwt lwt cwt
      go_wp2_with fail
      refine upon_float rfl ?_
      intro pr kpr lpr cpr
      go_wp2_with fail
      refine upon_float rfl ?_
      intro sp2 ksp2 lsp2 csp2
      go_wp2
      refine bodyPost_ret (v := (MV.val ⟨0, 0, s, p2, rl, rh, me2, sp2⟩)) (by simp [results, Try.results50, go_sem, MV.val]) rfl ⟨⟨0, 0, s, p2, rl, rh, me2, sp2⟩, rfl, ⟨ls, lp2, hrl, hrh, lme2, lsp2⟩, ?_, ?_⟩
      · unfold mrgC
        simp only [HF0.out, cs.out, CRL.out, CRH.out, cp1.out, cp2.out, CG.out, cdd.out, csh.out, cmu.out, cme2.out, csp1.out, csq.out, cnk.out, cwt.out, cpr.out, csp2.out]
        try rfl
      · repeat' first
          | with_reducible exact Below.refl _ _
          | with_reducible refine Below.setCell ?_ (by simp <;> omega) _
          | with_reducible refine Below.alloc ?_ (by simp <;> omega) _
          | with_reducible refine below_drewN ?_ _
          | with_reducible refine Below.drew ?_
end Go.Proofs.Ytffibfnagoagcaa
