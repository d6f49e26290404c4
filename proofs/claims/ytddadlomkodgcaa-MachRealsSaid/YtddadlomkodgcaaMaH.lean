/- Contracts: Step and New of count. -/
import Derived.Test.YtddadlomkodgcaaMaG2
namespace Go.Proofs.Ytddadlomkodgcaa
open Go.RowKit
set_option maxRecDepth 100000
set_option linter.unusedVariables false

structure StepO where
  d : Bool
  e : Int
  n : Int
  v : Nat
  x : CallV
/-- What a step of a pending call does. -/
def stepO (limit v : Nat) (x : CallV) : StepO :=
  if x.ld = true then
    (if v = x.old then (if x.op = 2 then ⟨true, 0, (v : Int) - 1, v - 1, noCall⟩ else ⟨true, 0, (v : Int) + 1, v + 1, noCall⟩) else ⟨false, 0, 0, v, ⟨x.op, false, 0⟩⟩)
  else if x.op = 3 then ⟨true, 0, (v : Int), v, noCall⟩
  else if x.op = 1 then (if v = limit then ⟨true, 10, 0, v, noCall⟩ else ⟨false, 0, 0, v, ⟨1, true, v⟩⟩)
  else (if v = 0 then ⟨true, 5, 0, v, noCall⟩ else ⟨false, 0, 0, v, ⟨2, true, v⟩⟩)
structure OkCall (limit : Nat) (x : CallV) : Prop where
  op : x.op ≤ 3
  no : x.op = 0 → x = noCall
  ld : x.ld = true → (x.op = 1 ∧ x.old < limit) ∨ (x.op = 2 ∧ 0 < x.old ∧ x.old ≤ limit)
theorem OkCall.none_ (limit : Nat) : OkCall limit noCall := ⟨by simp, fun _ => rfl, fun h => by cases h⟩
theorem OkCall.fresh {limit op : Nat} (h1 : 1 ≤ op) (h : op ≤ 3) : OkCall limit ⟨op, false, 0⟩ := ⟨h, fun h => by simp at h; omega, fun h => by cases h⟩
theorem OkCall.step {limit v : Nat} {x : CallV} (h : OkCall limit x) (hp : x.op ≠ 0) (hv : v ≤ limit) : OkCall limit (stepO limit v x).x ∧ (stepO limit v x).v ≤ limit := by
  have h3 := h.op
  have h2 := h.ld
  unfold stepO
  split
  · rename_i hl
    have h2 := h2 hl
    split
    · split
      · exact ⟨OkCall.none_ _, by show v - 1 ≤ limit; omega⟩
      · exact ⟨OkCall.none_ _, by show v + 1 ≤ limit; omega⟩
    · exact ⟨OkCall.fresh (by omega) h3, hv⟩
  · split
    · exact ⟨OkCall.none_ _, hv⟩
    · split
      · split
        · exact ⟨OkCall.none_ _, hv⟩
        · exact ⟨⟨by show 1 ≤ 3; omega, (fun h => by cases h), fun _ => .inl ⟨rfl, by show v < limit; omega⟩⟩, hv⟩
      · split
        · exact ⟨OkCall.none_ _, hv⟩
        · exact ⟨⟨by show 2 ≤ 3; omega, (fun h => by cases h), fun _ => .inr ⟨rfl, by show 0 < v; omega, hv⟩⟩, hv⟩

section
variable (w : World) (c b bw limit v k : Nat) (calls : List CallV)
theorem step_out (p : Value) (who : Int) (hb : inB who 64 = false) :
    Calls Try.prog 29 #[p, .int .i64 who] w fun e w' => e = .returned (.tuple #[resV false 0 0, .int .i64 1]) ∧ Below w.heap.size w w' := by
  have HW := Lib.hid (cWho_any (w.alloc (.cells #[.bool false, .int .i64 0, .int .i64 0] 71)) who)
  rw [hb] at HW
  clear hb
  go_enter Try.func29, Try.ntmps29
  go_wp2_with fail
  with_reducible refine HW.out.mono ?_
  rintro e w1 ⟨rfl, hw⟩
  subst hw
  go_wp2
  refine bodyPost_ret (v := .tuple #[resV false 0 0, .int .i64 1]) (by simp [results, Try.results29, go_sem]) rfl ⟨rfl, ?_⟩
  repeat' first
    | with_reducible exact Below.refl _ _
    | with_reducible refine Below.setCell ?_ (by simp) _
    | with_reducible refine Below.alloc ?_ (by simp) _
    | with_reducible refine Below.drew ?_
theorem step_none (p : Value) (who : Int) (hb : inB who 64 = true) (HP0 : ∀ w, Calls Try.prog 32 #[p, .int .i64 who] w fun e w' => e = .returned (.bool false) ∧ w = w') :
    Calls Try.prog 29 #[p, .int .i64 who] w fun e w' => e = .returned (.tuple #[resV false 0 0, .int .i64 7]) ∧ Below w.heap.size w w' := by
  have HW := Lib.hid (cWho_any (w.alloc (.cells #[.bool false, .int .i64 0, .int .i64 0] 71)) who)
  rw [hb] at HW
  have HP := Lib.hid (HP0 (w.alloc (.cells #[.bool false, .int .i64 0, .int .i64 0] 71)))
  clear hb HP0
  go_enter Try.func29, Try.ntmps29
  go_wp2_with fail
  with_reducible refine HW.out.mono ?_
  rintro e w1 ⟨rfl, hw⟩
  subst hw
  go_wp2_with fail
  with_reducible refine HP.out.mono ?_
  rintro e w1 ⟨rfl, hw⟩
  subst hw
  go_wp2
  refine bodyPost_ret (v := .tuple #[resV false 0 0, .int .i64 7]) (by simp [results, Try.results29, go_sem]) rfl ⟨rfl, ?_⟩
  repeat' first
    | with_reducible exact Below.refl _ _
    | with_reducible refine Below.setCell ?_ (by simp) _
    | with_reducible refine Below.alloc ?_ (by simp) _
    | with_reducible refine Below.drew ?_

set_option maxHeartbeats 1600000 in
theorem step_swap (h : CntS w c b bw limit v k calls) (i : Nat) (hi : i < 64) (hop : (calls.getD i noCall).op ≠ 0) (hld : (calls.getD i noCall).ld = true) (d : Bool) (er n : Int) (v' : Nat) (x' : CallV)
    (HX : ∀ w0, CntS w0 c b bw limit v k calls → Calls Try.prog 57 #[.pointer (some ⟨c, 0, none⟩), .int .i64 (i : Int)] w0 fun x w' => x = .returned (.tuple #[resV d er n, .int .i64 0]) ∧ CntS w' c b bw limit v' (k + 1) (calls.set i x') ∧ Off [c, b, bw] w0 w') :
    Calls Try.prog 29 #[.pointer (some ⟨c, 0, none⟩), .int .i64 (i : Int)] w fun x w' => x = .returned (.tuple #[resV d er n, .int .i64 0]) ∧ CntS w' c b bw limit v' (k + 1) (calls.set i x') ∧ Off [c, b, bw] w w' := by
  have hcl := h.blk.lt
  obtain ⟨r9, hm9⟩ := h.m
  have hbl := hm9.blk.lt
  have hbwl := hm9.wd.lt
  clear hm9
  have h0 := h.alloc (.cells #[.bool false, .int .i64 0, .int .i64 0] 71)
  have HK := Lib.hid (BlkL.new w [.bool false, .int .i64 0, .int .i64 0] 71)
  have HW := Lib.hid (cWho_any (w.alloc (.cells #[.bool false, .int .i64 0, .int .i64 0] 71)) i)
  rw [inB_iff.mpr (by omega)] at HW
  have HP := Lib.hid (pend_at _ c b bw limit v k calls h0 i hi _ rfl)
  rw [decide_eq_true hop] at HP
  have d1 := h0.ld hi
  rw [hld] at d1
  have l0 := h0.blk.lt
  have HX1 := Lib.hid (HX _ h0)
  have hnr3 : w.heap.size ∉ [c, b, bw] := by simp; omega
  clear h h0 HX hld hop
  go_enter Try.func29, Try.ntmps29
  go_wp2_with fail
  with_reducible refine HW.out.mono ?_
  rintro e w1 ⟨rfl, hw⟩
  subst hw
  go_wp2_with fail
  with_reducible refine HP.out.mono ?_
  rintro e w1 ⟨rfl, hw⟩
  subst hw
  go_wp2_with fail
  with_reducible refine HX1.out.mono ?_
  rintro e w2 ⟨rfl, hc2, hf2⟩
  have k2 := HK.out.off hf2 hnr3
  clear d1 l0
  have m0 := k2.cell 0 _ rfl
  have m1 := k2.cell 1 _ rfl
  have m2 := k2.cell 2 _ rfl
  have g0 := k2.froz 0 (by simp)
  have g1 := k2.froz 1 (by simp)
  have g2 := k2.froz 2 (by simp)
  have gl := k2.lt
  have hf3 := Lib.hid (((Off.refl [c, b, bw] w).alloc (.cells #[.bool false, .int .i64 0, .int .i64 0] 71)).trans hf2)
  have HC2 := Lib.hid hc2
  have K2 := Lib.hid k2
  clear k2 hf2 hc2
  go_wp2
  have n0 := (K2.out.set 0 (.bool d) (by simp)).cell 0 _ rfl
  have n1 := ((K2.out.set 0 (.bool d) (by simp)).set 1 (.int .i64 er) (by simp)).cell 1 _ rfl
  have n2 := (((K2.out.set 0 (.bool d) (by simp)).set 1 (.int .i64 er) (by simp)).set 2 (.int .i64 n) (by simp)).cell 2 _ rfl
  refine bodyPost_ret (v := .tuple #[resV d er n, .int .i64 0]) (by simp [results, Try.results29, go_sem, n0, n1, n2]) rfl ⟨rfl, HC2.out.res hnr3 _ _ _, hf3.out.res (Nat.le_refl _) _ _ _⟩

set_option maxHeartbeats 1600000 in
theorem step_load (h : CntS w c b bw limit v k calls) (i : Nat) (hi : i < 64) (hop : (calls.getD i noCall).op ≠ 0) (hld : (calls.getD i noCall).ld = false) (d : Bool) (er n : Int) (v' : Nat) (x' : CallV)
    (HX : ∀ w0, CntS w0 c b bw limit v k calls → Calls Try.prog 58 #[.pointer (some ⟨c, 0, none⟩), .int .i64 (i : Int)] w0 fun x w' => x = .returned (.tuple #[resV d er n, .int .i64 0]) ∧ CntS w' c b bw limit v' (k + 1) (calls.set i x') ∧ Off [c, b, bw] w0 w') :
    Calls Try.prog 29 #[.pointer (some ⟨c, 0, none⟩), .int .i64 (i : Int)] w fun x w' => x = .returned (.tuple #[resV d er n, .int .i64 0]) ∧ CntS w' c b bw limit v' (k + 1) (calls.set i x') ∧ Off [c, b, bw] w w' := by
  have hcl := h.blk.lt
  obtain ⟨r9, hm9⟩ := h.m
  have hbl := hm9.blk.lt
  have hbwl := hm9.wd.lt
  clear hm9
  have h0 := h.alloc (.cells #[.bool false, .int .i64 0, .int .i64 0] 71)
  have HK := Lib.hid (BlkL.new w [.bool false, .int .i64 0, .int .i64 0] 71)
  have HW := Lib.hid (cWho_any (w.alloc (.cells #[.bool false, .int .i64 0, .int .i64 0] 71)) i)
  rw [inB_iff.mpr (by omega)] at HW
  have HP := Lib.hid (pend_at _ c b bw limit v k calls h0 i hi _ rfl)
  rw [decide_eq_true hop] at HP
  have d1 := h0.ld hi
  rw [hld] at d1
  have l0 := h0.blk.lt
  have HX1 := Lib.hid (HX _ h0)
  have hnr3 : w.heap.size ∉ [c, b, bw] := by simp; omega
  clear h h0 HX hld hop
  go_enter Try.func29, Try.ntmps29
  go_wp2_with fail
  with_reducible refine HW.out.mono ?_
  rintro e w1 ⟨rfl, hw⟩
  subst hw
  go_wp2_with fail
  with_reducible refine HP.out.mono ?_
  rintro e w1 ⟨rfl, hw⟩
  subst hw
  go_wp2_with fail
  with_reducible refine HX1.out.mono ?_
  rintro e w2 ⟨rfl, hc2, hf2⟩
  have k2 := HK.out.off hf2 hnr3
  clear d1 l0
  have m0 := k2.cell 0 _ rfl
  have m1 := k2.cell 1 _ rfl
  have m2 := k2.cell 2 _ rfl
  have g0 := k2.froz 0 (by simp)
  have g1 := k2.froz 1 (by simp)
  have g2 := k2.froz 2 (by simp)
  have gl := k2.lt
  have hf3 := Lib.hid (((Off.refl [c, b, bw] w).alloc (.cells #[.bool false, .int .i64 0, .int .i64 0] 71)).trans hf2)
  have HC2 := Lib.hid hc2
  have K2 := Lib.hid k2
  clear k2 hf2 hc2
  go_wp2
  have n0 := (K2.out.set 0 (.bool d) (by simp)).cell 0 _ rfl
  have n1 := ((K2.out.set 0 (.bool d) (by simp)).set 1 (.int .i64 er) (by simp)).cell 1 _ rfl
  have n2 := (((K2.out.set 0 (.bool d) (by simp)).set 1 (.int .i64 er) (by simp)).set 2 (.int .i64 n) (by simp)).cell 2 _ rfl
  refine bodyPost_ret (v := .tuple #[resV d er n, .int .i64 0]) (by simp [results, Try.results29, go_sem, n0, n1, n2]) rfl ⟨rfl, HC2.out.res hnr3 _ _ _, hf3.out.res (Nat.le_refl _) _ _ _⟩

theorem step_any (h : CntS w c b bw limit v k calls) (hk : k < 9223372036854775807) (hv : v ≤ limit) (hl : limit ≤ 4611686018427387903) (i : Nat) (hi : i < 64) (x : CallV) (hx : calls.getD i noCall = x) (hp : x.op ≠ 0) (ho : OkCall limit x) :
    Calls Try.prog 29 #[.pointer (some ⟨c, 0, none⟩), .int .i64 (i : Int)] w fun e w' => e = .returned (.tuple #[resV (stepO limit v x).d (stepO limit v x).e (stepO limit v x).n, .int .i64 0]) ∧
      CntS w' c b bw limit (stepO limit v x).v (k + 1) (calls.set i (stepO limit v x).x) ∧ Off [c, b, bw] w w' := by
  have h3 := ho.op
  rcases hld : x.ld with _ | _
  · have hX := step_load w c b bw limit v k calls h i hi (by rw [hx]; exact hp) (by rw [hx]; exact hld)
    have e : ∀ r, r = (if x.op = 3 then (⟨true, 0, (v : Int), v, noCall⟩ : StepO) else if x.op = 1 then (if v = limit then ⟨true, 10, 0, v, noCall⟩ else ⟨false, 0, 0, v, ⟨1, true, v⟩⟩) else (if v = 0 then ⟨true, 5, 0, v, noCall⟩ else ⟨false, 0, 0, v, ⟨2, true, v⟩⟩)) → stepO limit v x = r := by
      intro r hr
      rw [hr]; unfold stepO; rw [hld]; rfl
    by_cases o3 : x.op = 3
    · rw [e ⟨true, 0, (v : Int), v, noCall⟩ (by rw [if_pos o3])]
      exact hX _ _ _ _ _ fun w0 h0 => cload_read w0 c b bw limit v k calls h0 hk hv hl i hi (by rw [hx]; exact o3)
    · by_cases o1 : x.op = 1
      · by_cases hvl : v = limit
        · rw [e ⟨true, 10, 0, v, noCall⟩ (by rw [if_neg o3, if_pos o1, if_pos hvl])]
          exact hX _ _ _ _ _ fun w0 h0 => cload_full w0 c b bw limit v k calls h0 hk hv hl i hi (by rw [hx]; exact o1) hvl
        · rw [e ⟨false, 0, 0, v, ⟨1, true, v⟩⟩ (by rw [if_neg o3, if_pos o1, if_neg hvl])]
          exact hX _ _ _ _ _ fun w0 h0 => cload_up w0 c b bw limit v k calls h0 hk hv hl i hi (by rw [hx]; exact o1) hvl
      · have o2 : x.op = 2 := by omega
        by_cases hvl : v = 0
        · rw [e ⟨true, 5, 0, v, noCall⟩ (by rw [if_neg o3, if_neg o1, if_pos hvl])]
          exact hX _ _ _ _ _ fun w0 h0 => cload_range w0 c b bw limit v k calls h0 hk hv hl i hi (by rw [hx]; exact o2) hvl
        · rw [e ⟨false, 0, 0, v, ⟨2, true, v⟩⟩ (by rw [if_neg o3, if_neg o1, if_neg hvl])]
          exact hX _ _ _ _ _ fun w0 h0 => cload_down w0 c b bw limit v k calls h0 hk hv hl i hi (by rw [hx]; exact o2) hvl
  · have hX := step_swap w c b bw limit v k calls h i hi (by rw [hx]; exact hp) (by rw [hx]; exact hld)
    have e : ∀ r, r = (if v = x.old then (if x.op = 2 then (⟨true, 0, (v : Int) - 1, v - 1, noCall⟩ : StepO) else ⟨true, 0, (v : Int) + 1, v + 1, noCall⟩) else ⟨false, 0, 0, v, ⟨x.op, false, 0⟩⟩) → stepO limit v x = r := by
      intro r hr
      rw [hr]; unfold stepO; rw [hld]; rfl
    obtain ⟨xo, xl, xold⟩ := x
    simp only at hld hp h3
    subst hld
    have hk2 := ho.ld rfl
    simp only at hk2 e
    by_cases hvo : v = xold
    · subst hvo
      rcases hk2 with ⟨rfl, hlt⟩ | ⟨rfl, h0, hle⟩
      · rw [e ⟨true, 0, (v : Int) + 1, v + 1, noCall⟩ (by rw [if_pos rfl, if_neg (by omega)])]
        exact hX _ _ _ _ _ fun w0 h0 => cswap_up w0 c b bw limit v k calls h0 hk hl i hi hx hlt
      · rw [e ⟨true, 0, (v : Int) - 1, v - 1, noCall⟩ (by rw [if_pos rfl, if_pos rfl])]
        exact hX _ _ _ _ _ fun w0 h1 => cswap_down w0 c b bw limit v k calls h1 hk hl i hi hx h0 hle
    · rcases hk2 with ⟨rfl, hlt⟩ | ⟨rfl, h0, hle⟩
      · rw [e ⟨false, 0, 0, v, ⟨1, false, 0⟩⟩ (by rw [if_neg hvo])]
        exact hX _ _ _ _ _ fun w0 h0 => cswap_up_no w0 c b bw limit v k calls h0 hk hl i hi xold hx hvo hlt
      · rw [e ⟨false, 0, 0, v, ⟨2, false, 0⟩⟩ (by rw [if_neg hvo])]
        exact hX _ _ _ _ _ fun w0 h1 => cswap_down_no w0 c b bw limit v k calls h1 hk hl i hi xold hx hvo h0 hle
end

theorem cz_take : Try.zeroCells128.toList = .int .i64 0 :: .pointer none :: callCs (List.replicate 64 noCall) := by kernel_rfl
theorem cz_set (u v : Value) : (Try.zeroCells128.setIfInBounds 0 u).setIfInBounds 1 v = (u :: v :: callCs (List.replicate 64 noCall)).toArray := by
  apply Array.ext'
  rw [Array.toList_setIfInBounds, Array.toList_setIfInBounds, cz_take]
  rfl
theorem cnew_bad (w : World) (l : Int) (h : l < 0 ∨ 4611686018427387903 < l) :
    Calls Try.prog 25 #[.int .i64 l] w fun e w' => e = .returned (.tuple #[.pointer none, .int .i64 1]) ∧ w = w' := by
  by_cases h1 : l < 0
  · go_enter Try.func25, Try.ntmps25
    go_wp2
    go_ret2
    exact ⟨rfl, rfl⟩
  · have h2 : 4611686018427387903 < l := by omega
    clear h
    go_enter Try.func25, Try.ntmps25
    go_wp2
    go_ret2
    exact ⟨rfl, rfl⟩
set_option maxHeartbeats 1600000 in
theorem cnew_ok (w : World) (l : Nat) (h : l ≤ 4611686018427387903) :
    Calls Try.prog 25 #[.int .i64 (l : Int)] w fun e w' => ∃ c b bw, e = .returned (.tuple #[.pointer (some ⟨c, 0, none⟩), .int .i64 0]) ∧ w.heap.size ≤ c ∧ w.heap.size ≤ b ∧ w.heap.size ≤ bw ∧ CntS w' c b bw l 0 0 (List.replicate 64 noCall) ∧ Below w.heap.size w w' := by
  have hn := mnew_ok w 1 (by omega) (by omega)
  rw [show ((1 : Nat) : Int) = 1 from rfl] at hn
  have HN := Lib.hid hn
  have h1 : ¬ (l : Int) < 0 := by omega
  have h2 : ¬ (4611686018427387903 : Int) < (l : Int) := by omega
  clear h hn
  go_enter Try.func25, Try.ntmps25
  go_wp2_with fail
  with_reducible refine HN.out.mono ?_
  rintro e w1 ⟨b, bw, ring, rfl, hb1, hb2, hm, hb⟩
  have hbl := hm.blk.lt
  have hbwl := hm.wd.lt
  have HM := Lib.hid hm
  have HB := Lib.hid hb
  clear hm hb
  go_wp2
  go_ret2
  rw [cz_set]
  have hs := HB.out.size
  refine ⟨w1.heap.size, b, bw, rfl, hs, hb1, hb2, ⟨BlkL.new w1 _ _, by simp, ⟨ring, HM.out.alloc _⟩, by omega, by omega⟩, HB.out.alloc hs _⟩
end Go.Proofs.Ytddadlomkodgcaa
