/- CauseReverse: the laws that its walk needs. -/
import Derived.Test.YtifldnkcheobhaaDoorRvW
import Derived.Test.YtifldnkcheobhaaDoorCcl
import Derived.Laws.OwnMore
namespace Go.Proofs.YtifldnkcheobhaaDoor
open Go.RowKit
set_option maxRecDepth 100000
set_option linter.unusedVariables false
set_option linter.unusedSimpArgs false

theorem act_info : (Tryd.prog.info? 24).map (fun i => (i.zero, i.size, i.bytes)) = some (some (.agg #[.int .u8 0, .int .i64 0]), 2, 16) := by kernel_rfl
theorem info_partsAct : ∃ i0, Tryd.prog.info? 24 = some i0 ∧ i0.zero = some (.agg #[.int .u8 0, .int .i64 0]) ∧ i0.size = 2 ∧ i0.bytes = 16 := by
  have h := act_info
  cases hh : Tryd.prog.info? 24 with
  | none => rw [hh] at h; cases h
  | some i0 =>
    rw [hh] at h
    simp only [Option.map_some, Option.some.injEq, Prod.mk.injEq] at h
    exact ⟨i0, rfl, h.1, h.2.1, h.2.2⟩
theorem acts_info : (Tryd.prog.info? 33).map (fun i => (i.zero, i.size, i.bytes)) = some (some (.slice none 0 0), 1, 24) := by kernel_rfl
theorem info_partsActs : ∃ i0, Tryd.prog.info? 33 = some i0 ∧ i0.zero = some (.slice none 0 0) ∧ i0.size = 1 ∧ i0.bytes = 24 := by
  have h := acts_info
  cases hh : Tryd.prog.info? 33 with
  | none => rw [hh] at h; cases h
  | some i0 =>
    rw [hh] at h
    simp only [Option.map_some, Option.some.injEq, Prod.mk.injEq] at h
    exact ⟨i0, rfl, h.1, h.2.1, h.2.2⟩
theorem mkP (w : World) (n : Nat) (hn : n ≤ 100) : (Instr.makeSlice 34 (.int .i64 (n : Int)) (.int .i64 (n : Int))).run Tryd.prog w = .ok (.slice (some ⟨w.heap.size, 0, none⟩) n n) (w.alloc (.cells (List.replicate n (.slice none 0 0)).toArray 33)) := by
  obtain ⟨i0, hi, hz0, hz1, hz2⟩ := info_partsActs
  have h := run_make (P := Tryd.prog) w 34 33 i0 (.slice none 0 0) Tryd.underlying34 hi hz0 .i64 .i64 n n (by omega) (Int.le_refl _) (by rw [hz2]; omega) (by omega)
  rw [h]
  have e : madeCells (Value.slice none 0 0).cells ((n : Int).toNat * i0.size) = (List.replicate n (Value.slice none 0 0)).toArray := by
    rw [hz1, Nat.mul_one, Int.toNat_natCast]
    have := toList_madeCells_one (.slice none 0 0) n
    rw [← this]
    rfl
  rw [e]
  simp
theorem RvI.start {W : World} {ob k : Nat} (b : Nat → Nat) (h : BlkL W ob (List.replicate (k + 1) (.slice none 0 0))) : RvI W W ob k 0 none 0 b := by
  refine ⟨Off.refl _ _, ?_, OwnS.nil _ _ _, fun j hj => by omega⟩
  have e : (Value.slice none 0 0 :: (List.range k).map fun j => if j < 0 then Value.slice (some ⟨b j, 0, none⟩) 1 1 else .slice none 0 0) = List.replicate (k + 1) (.slice none 0 0) := by
    rw [List.replicate_succ]
    congr 1
    refine List.ext_getElem (by simp) fun i h1 h2 => by simp
  rw [e]
  exact h
theorem srcOne (w : World) (x y : Value) (hx : x.oneCell' = true) (hy : y.oneCell' = true) (t : TypeId) : SrcS (w.alloc (.cells #[x, y] t)) 2 (some ⟨w.heap.size, 0, none⟩) 1 [x, y] :=
  BlkL.srcS (BlkL.new w [x, y] t) (by simp [hx, hy]) 1 rfl
theorem srcOneD (w : World) (x y : Value) (hx : x.oneCell' = true) (hy : y.oneCell' = true) (t : TypeId) : SrcS (w.alloc (.cells #[x, y] t)).drew 2 (some ⟨w.heap.size, 0, none⟩) 1 [x, y] :=
  BlkL.srcS (BlkL.new w [x, y] t).drew (by simp [hx, hy]) 1 rfl
theorem run_rev {w0 W : World} (h0 : Lib0 w0) (hb : Below w0.heap.size w0 W) {Pa : Value} {k : Nat} (hk : k < 20) {a : ActV} (hq : ProgQ W W.heap.size Pa (revP k a)) (ha : ActOk 0 (k + 1) a) (h1 : -9223372036854775808 ≤ a.2) (h2 : a.2 ≤ 9223372036854775807)
    (e : Option PanV) (ms : List MarkV) (h : ∀ (R : Nat → Option PanV → CaS → RunR) (rem : List Nat) (s : CaS), 0 < s.fuel → actsV R [a] none rem s = ⟨e, none, rem, ⟨s.fuel - 1, s.marks ++ ms⟩⟩) (oc on : Int) (hoc : ((noneV e).1 : Int) = oc) (hon : (noneV e).2 = on) :
    Calls Tryd.prog 13 #[Pa] W (RunM W (ms.length + k) oc on (ms ++ (List.range' 1 k).reverse.map noteM)) := by
  obtain ⟨r1, r2⟩ := revP_run hk a e ms h
  refine (run_ok h0 hb hq (revP_ok hk a ha h1 h2)).mono ?_
  intro e w' hE
  obtain ⟨A, c, k1, k2, k3⟩ := hE
  have hl : (runP (revP k a)).st.marks.length = ms.length + k := by rw [r2]; simp
  rw [hl, r1, hoc, hon] at k1
  rw [hl, r2] at k2
  exact ⟨A, c, k1, k2, k3⟩
theorem acts_pan {K : Nat} {n m : Int} (hK : 11 ≤ K) (he : endV K n = (K, m)) (R : Nat → Option PanV → CaS → RunR) (rem : List Nat) (s : CaS) (hs : 0 < s.fuel) : actsV R [(K, n)] none rem s = ⟨some (K, m), none, rem, ⟨s.fuel - 1, s.marks ++ []⟩⟩ := by
  have hne : ¬ s.fuel = 0 := by omega
  simp [actsV, hne, show ¬ K = 1 by omega, show ¬ K = 2 by omega, show ¬ K = 3 by omega, show ¬ K = 4 by omega, show ¬ K = 5 by omega, he, CaS.burn]
theorem acts_calm (R : Nat → Option PanV → CaS → RunR) (rem : List Nat) (s : CaS) (hs : 0 < s.fuel) : actsV R [(1, -5)] none rem s = ⟨none, none, rem, ⟨s.fuel - 1, s.marks ++ [(1, 0, -5)]⟩⟩ := by
  have hne : ¬ s.fuel = 0 := by omega
  simp [actsV, hne, CaS.burn, CaS.mark]
theorem notes_at {k i : Nat} (h : i < k) : ((List.range' 1 k).reverse.map noteM)[i]? = some (1, 0, ((k - i : Nat) : Int)) := by
  rw [List.getElem?_map, List.getElem?_reverse (by simpa using h)]
  simp only [List.length_range']
  rw [List.getElem?_range' (by omega)]
  simp only [Option.map_some, noteM]
  congr 3
  omega
end Go.Proofs.YtifldnkcheobhaaDoor
