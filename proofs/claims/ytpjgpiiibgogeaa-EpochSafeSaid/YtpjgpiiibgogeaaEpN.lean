/- Contract: New of an Epochs. -/
import Derived.Test.YtpjgpiiibgogeaaEpT
import Derived.OwnWalk
namespace Go.Proofs.Ytpjgpiiibgogeaa
open Go.RowKit
set_option maxRecDepth 100000
set_option linter.unusedVariables false

abbrev TWk : TypeId := 123
theorem wk_info : (Try.prog.info? TWk).map (fun i => (i.zero, i.size, i.bytes)) = some (some (.agg #[.nilFunc, .int .u64 0, .slice none 0 0]), 3, 40) := by kernel_rfl
theorem made3_at (n j : Nat) (h : j < n * 3) : (madeCells #[.nilFunc, .int .u64 0, .slice none 0 0] (n * 3)).toList[j]? = some (wkF (fun _ => .nilFunc) (fun _ => 0) (fun _ => none) (fun _ => 0) (fun _ => 0) j) := by
  rw [Array.getElem?_toList]
  unfold madeCells wkF
  rw [Array.getElem?_map, Array.getElem?_range, if_pos h]
  show some (#[Value.nilFunc, .int .u64 0, .slice none 0 0][j % 3]!) = _
  rcases (by omega : j % 3 = 0 ∨ j % 3 = 1 ∨ j % 3 = 2) with e | e | e <;> rw [e] <;> rfl
theorem enew_bad (w : World) (n : Int) (h : n < 1 ∨ 64 < n) : Calls Try.prog 14 #[.int .i64 n] w fun e w' => e = .returned (.tuple #[.pointer none, .int .i64 1]) ∧ w = w' := by
  rcases h with h | h
  · go_enter Try.func14, Try.ntmps14
    go_wp2
    go_ret2
    exact ⟨rfl, rfl⟩
  · have h' : ¬ n < 1 := by omega
    go_enter Try.func14, Try.ntmps14
    go_wp2
    go_ret2
    exact ⟨rfl, rfl⟩
set_option maxHeartbeats 3200000 in
theorem enew_ok (w : World) (n : Nat) (h1 : 1 ≤ n) (h2 : n ≤ 64) : Calls Try.prog 14 #[.int .i64 (n : Int)] w fun e w' => ∃ x b bw wb ring, e = .returned (.tuple #[PV x, .int .i64 0]) ∧
    EpR w' w.heap.size x b bw wb n [] 0 (initE n) (fun _ => .nilFunc) (fun _ => none) (fun _ => 0) ring ∧ Below w.heap.size w w' := by
  have HM := Lib.hid (mnew_ok w (n + 1) (by omega) (by omega))
  have HO := Lib.hid (wordOf_any w n (by omega))
  obtain ⟨i0, hi0, hz0, hz1, hz2⟩ := info_parts wk_info
  have j1 : ¬ (n : Int) < 1 := by omega
  have j2 : ¬ (64 : Int) < (n : Int) := by omega
  have hby : i0.bytes * n ≤ 281474976710656 := by rw [hz2]; omega
  have hml : n ≤ maxLen := by unfold maxLen; omega
  go_enter Try.func14, Try.ntmps14
  go_wp2_with fail
  with_reducible refine HO.out.mono ?_
  rintro e w1 ⟨rfl, hw⟩
  subst hw
  go_wp2_with fail
  with_reducible refine HM.out.mono ?_
  rintro e w2 ⟨b, bw, ring, rfl, hb, hbw, hm, hbel⟩
  have HX := Lib.hid (And.intro hb (And.intro hbw (And.intro hm hbel)))
  clear hb hbw hm hbel HM HO
  go_wp2_with (refine wpList_make_full _ rfl _ _ 112 rfl w2.heap.size TWk i0 (.agg #[.nilFunc, .int .u64 0, .slice none 0 0]) 3 Try.underlying112 hi0 hz0 hz1 .i64 .i64 n n n rfl rfl rfl rfl hby hml (Nat.le_refl _) ?_)
  intro w3 ho hg
  have HO := Lib.hid ho
  have HG := Lib.hid hg
  clear ho hg hi0 hz0 hz1
  go_wp2
  go_ret2
  obtain ⟨hb, hbw, hm, hbel⟩ := HX.out
  have hcell := World.ownsRow.cellAt HO.out
  have hfroz := World.ownsRow.frozenAt HO.out
  have hlt := (World.ownsRow.lt HO.out w2.heap.size rfl).2
  have hb3 : Below w2.heap.size w2 w3 := (Below.refl _ _).grown HG.out (Nat.le_refl _) (fun k hk => by cases hk)
  have hal := (Below.refl w3.heap.size w3).alloc (Nat.le_refl _) (.cells #[PV b, .slice (some ⟨w2.heap.size, 0, none⟩) n n] 114)
  have l1 := hm.blk.lt
  have l2 := hm.wd.lt
  have hs2 := hbel.size
  have hs3 := hb3.size
  have hf : BlkF w3 w2.heap.size (n * 3) (wkF (fun _ => .nilFunc) (fun _ => 0) (fun _ => none) (fun _ => 0) (fun _ => 0)) :=
    ⟨hlt, fun i hi => (hcell i hi).trans (made3_at n i hi), fun i _ => hfroz i⟩
  refine ⟨w3.heap.size, b, bw, w2.heap.size, ring, rfl, ⟨BlkL.new w3 [PV b, .slice (some ⟨w2.heap.size, 0, none⟩) n n] _, (hm.off (Off.of_below (S := []) hb3) (by simp) (by simp)).off (Off.of_below (S := []) hal) (by simp) (by simp), hf.off (Off.of_below (S := []) hal) (by simp), fun j hj => World.ownsRow_nil _ _ _ _, fun i j _ _ _ a a' e => by simp at e, fun j _ a e => by simp at e, fun j _ => rfl, by omega, by simp, by simp, h2, by omega⟩, (hbel.trans (hb3.mono hs2)).trans (hal.mono (by omega))⟩
end Go.Proofs.Ytpjgpiiibgogeaa
