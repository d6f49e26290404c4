/- Merge and DocMerge: what they answer; Merge where the counts are bad. -/
import Derived.Test.YtffibfnagoagcaaMetG
namespace Go.Proofs.Ytffibfnagoagcaa
open Go.RowKit
set_option maxRecDepth 100000
set_option linter.unusedVariables false

def figC (c d : MV) : MV := if c.n = 0 then d else if d.n = 0 then c else mrgC c d
def cntsB (c d : MV) : Bool := cntB c.n d.n && cntB c.bad d.bad
def zeroM : MV := ⟨0, 0, 0, 0, 0, 0, 0, 0⟩
def mergeC2 (a b : MV) : MV := if cntsB a b then { figC a.can b.can with n := a.n + b.n, bad := a.bad + b.bad } else zeroM.can
def mergeE (c d : MV) : Int := if cntsB c d then 0 else 1
theorem blk_put8 {w : World} {b : Nat} {x0 x1 x2 x3 x4 x5 x6 x7 : Value} (h : BlkL w b [x0, x1, x2, x3, x4, x5, x6, x7]) (v0 v1 v2 v3 v4 v5 v6 v7 : Value) :
    BlkL ((((((((w.setCell ⟨b, 0, none⟩ v0).setCell ⟨b, 1, none⟩ v1).setCell ⟨b, 2, none⟩ v2).setCell ⟨b, 3, none⟩ v3).setCell ⟨b, 4, none⟩ v4).setCell ⟨b, 5, none⟩ v5).setCell ⟨b, 6, none⟩ v6).setCell ⟨b, 7, none⟩ v7) b [v0, v1, v2, v3, v4, v5, v6, v7] :=
  (((((((h.set 0 v0 (by simp)).set 1 v1 (by simp)).set 2 v2 (by simp)).set 3 v3 (by simp)).set 4 v4 (by simp)).set 5 v5 (by simp)).set 6 v6 (by simp)).set 7 v7 (by simp)
theorem zeroM_ok : zeroM.Ok := by constructor <;> decide
set_option maxHeartbeats 3200000 in
theorem mergeP_bad (w : World) (a b : MV) (hk : b.n ≤ 9223372036854775807) (hk2 : b.bad ≤ 9223372036854775807) (hb : cntsB a b = false) :
    Calls Try.prog 25 #[a.val, b.val] w fun e w' => e = .returned (.tuple #[zeroM.val, .int .i64 1]) ∧ Below w.heap.size w w' := by
  have H1 := fun w => areCounts_any w a.n b.n hk
  have H2 := fun w => areCounts_any w a.bad b.bad hk2
  unfold cntsB at hb
  obtain ⟨an, abad, asu, alo, alw, ahi, ame, asp⟩ := a
  obtain ⟨bn, bbad, bsu, blo, blw, bhi, bme, bsp⟩ := b
  simp only [MV.val] at *
  have kst : ∀ (a : Addr) (x : Nat) (w : World), (store a (.float .f64 x)).run Try.prog w = stored Try.prog w a (.float .f64 x) .plain := fun a x w => run_store _ _ _ _ _ rfl
  rcases hc : cntB an bn with _ | _
  · rw [hc] at H1
    clear hb hc H2
    go_enter Try.func25, Try.ntmps25
    go_wp2_with fail
    with_reducible refine (H1 _).mono ?_
    rintro e w1 ⟨rfl, rfl⟩
    go_wp2
    refine bodyPost_ret (v := .tuple #[MV.val zeroM, .int .i64 1]) (by simp [results, Try.results25, go_sem, MV.val, zeroM]) rfl ⟨rfl, ?_⟩
    repeat' first
      | with_reducible exact Below.refl _ _
      | with_reducible refine Below.setCell ?_ (by simp <;> omega) _
      | with_reducible refine Below.alloc ?_ (by simp <;> omega) _
      | with_reducible refine Below.drew ?_
  · rw [hc] at H1 hb
    have hd : cntB abad bbad = false := by simpa using hb
    rw [hd] at H2
    clear hb hc hd
    go_enter Try.func25, Try.ntmps25
    go_wp2_with fail
    with_reducible refine (H1 _).mono ?_
    rintro e w1 ⟨rfl, rfl⟩
    go_wp2_with fail
    with_reducible refine (H2 _).mono ?_
    rintro e w1 ⟨rfl, rfl⟩
    go_wp2
    refine bodyPost_ret (v := .tuple #[MV.val zeroM, .int .i64 1]) (by simp [results, Try.results25, go_sem, MV.val, zeroM]) rfl ⟨rfl, ?_⟩
    repeat' first
      | with_reducible exact Below.refl _ _
      | with_reducible refine Below.setCell ?_ (by simp <;> omega) _
      | with_reducible refine Below.alloc ?_ (by simp <;> omega) _
      | with_reducible refine Below.drew ?_
end Go.Proofs.Ytffibfnagoagcaa
