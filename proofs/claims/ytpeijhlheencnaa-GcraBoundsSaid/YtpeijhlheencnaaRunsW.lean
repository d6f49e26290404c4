/- The law GcraRuns: its walk, whole. -/
import Derived.Test.YtpeijhlheencnaaSame5
namespace Go.Proofs.Ytpeijhlheencnaa
open Go.RowKit
set_option maxRecDepth 100000
set_option linter.unusedVariables false

theorem chk1_zero {T Tau tat : Int} (h : chkV T Tau [tat] = 0) : checkV T Tau = 0 ∧ isTick tat = true := by
  unfold chkV at h
  split at h
  · rename_i ha
    exact ⟨h, by simpa using ha⟩
  · omega
theorem chk1_one {T Tau tat : Int} (h : chkV T Tau [tat] = 1) (x y : Int) : rightB T Tau tat x y = false := by
  rw [rightB_of]
  unfold chkV at h
  split at h
  · rw [h]; rfl
  · rename_i ha
    have : isTick tat = false := by simpa using ha
    rw [this]; simp
theorem runEnd_err {E : TypeId} {er : Int} {T Tau tat : Nat} {L : List (Nat × Nat)} {w : World} {e : Ending} {w' : World} (h : ValEnd w (.tuple #[.slice none 0 0, .int .i64 er]) e w') : RunEnd E er 0 (runC T Tau tat L 0) w e w' :=
  ⟨none, 0, h.1, OwnC.nil _ _ _ _, h.2⟩
theorem goodL_cast {l : List (Int × Int)} (h : goodL l = true) : l = cast2 (l.map fun a => (a.1.toNat, a.2.toNat)) ∧ ∀ a ∈ l.map fun a => (a.1.toNat, a.2.toNat), a.1 ≤ 4611686018427387903 ∧ a.2 ≤ 4611686018427387903 := by
  unfold goodL at h
  rw [List.all_eq_true] at h
  constructor
  · unfold cast2
    rw [List.map_map]
    conv => lhs; rw [← List.map_id l]
    refine List.map_congr_left fun a ha => ?_
    have := h a ha
    unfold okA at this
    rw [Bool.and_eq_true, isTick_iff, isTick_iff] at this
    obtain ⟨x, y⟩ := a
    simp only [id, Function.comp_apply, Prod.mk.injEq]
    simp only at this
    omega
  · intro a ha
    obtain ⟨b, hb, rfl⟩ := List.mem_map.1 ha
    have := h b hb
    unfold okA at this
    rw [Bool.and_eq_true, isTick_iff, isTick_iff] at this
    simp only
    omega

theorem gcraRuns_walk (T Tau tat : Int) (A : Option Addr) (n c : Nat) (l : List (Int × Int)) (w : World) (h : ArgC w w.heap.size 2 A n c (F2 l)) (hc : c ≤ 8796093021952) :
    Calls Try.prog 3 #[.agg #[.int .i64 T, .int .i64 Tau], .int .i64 tat, .slice A n c] w (ValEnd w (.bool true)) := by
  have hn : n ≤ 8796093021952 := Nat.le_trans h.le hc
  rcases chkV_cases T Tau [tat] with h0 | h1
  · obtain ⟨g1, g2, g3, g4, g5⟩ := chkV_zero h0
    obtain ⟨hcv, htt⟩ := chk1_zero h0
    have ht := isTick_iff.1 htt
    obtain ⟨T, rfl⟩ := Int.eq_ofNat_of_zero_le (show 0 ≤ T by omega)
    obtain ⟨Tau, rfl⟩ := Int.eq_ofNat_of_zero_le g3
    obtain ⟨tat, rfl⟩ := Int.eq_ofNat_of_zero_le ht.1
    have hr : ∀ x y, rightB (T : Int) (Tau : Int) (tat : Int) x y = okA (x, y) := fun x y => by
      rw [rightB_of]
      unfold okA
      have e1 : decide (checkV (T : Int) (Tau : Int) = 0) = true := decide_eq_true hcv
      have e2 : isTick (tat : Int) = true := htt
      rw [e1, e2]; simp
    have HD := fun (w' : World) (B : Nat) (F : Option Addr) (d : Nat) (ha : ArgC w' B 2 F n d (F2 l)) (hB : B ≤ w'.heap.size) =>
      drun_any w' T Tau tat B F n d (l.map fun a => (a.1.toNat, a.2.toNat)) l ha hB (by omega) (by omega) (by omega) (by omega) (by omega) goodL_cast hr
    by_cases he : chkE l n = 0
    · have hg : goodL l = true ∧ n ≤ 4096 := by
        unfold chkE at he
        split at he
        · rename_i hg
          split at he
          · omega
          · exact ⟨hg, by omega⟩
        · omega
      obtain ⟨hlc, hLb⟩ := goodL_cast hg.1
      refine gcraRuns_gen _ _ _ A n c l w h hn 0 n T Tau tat (l.map fun a => (a.1.toNat, a.2.toNat)) (Lib.hid fun w' B F d ha hB => ?_) (Lib.hid fun w' B F d ha hB => ?_)
      · have ha2 := ha
        rw [hlc] at ha2
        refine grun_good w' T Tau tat B F n d _ ha2 hB hg.2 (by omega) (by omega) (by omega) (by omega) hLb (Lib.hid fun w2 hb => ?_)
        have := checkRun_any w2 (T : Int) (Tau : Int) (tat : Int) w'.heap.size F n d l ((ha.more hB).below hb) hb.size (by omega) h0
        rw [he] at this
        exact this
      · exact (HD w' B F d ha hB).mono fun e w2 hd => hd.2 he hlc
    · have hne : (chkE l n != 0) = true := by simpa using he
      refine gcraRuns_gen _ _ _ A n c l w h hn (chkE l n) 0 T Tau tat [] (Lib.hid fun w' B F d ha hB => ?_) (Lib.hid fun w' B F d ha hB => ?_)
      · exact (grun_err w' _ _ _ F n d (chkE l n) hne (Lib.hid fun w2 hb => checkRun_any w2 (T : Int) (Tau : Int) (tat : Int) w'.heap.size F n d l ((ha.more hB).below hb) hb.size (by omega) h0)).mono fun e w2 hh => runEnd_err hh
      · exact (HD w' B F d ha hB).mono fun e w2 hd => runEnd_err (hd.1 he)
  · refine gcraRuns_gen T Tau tat A n c l w h hn 1 0 0 0 0 [] (Lib.hid fun w' B F d ha hB => ?_) (Lib.hid fun w' B F d ha hB => ?_)
    · exact (grun_err w' T Tau tat F n d 1 rfl (Lib.hid fun w2 hb => checkRun_lim w2 T Tau tat F n d h1)).mono fun e w2 hh => runEnd_err hh
    · exact (drun_lim w' T Tau tat F n d (chk1_one h1 0 0)).mono fun e w2 hh => runEnd_err hh
end Go.Proofs.Ytpeijhlheencnaa
