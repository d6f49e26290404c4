/- CountPlays: the counter and the document's beside it; calls of both, at any arguments. -/
import Derived.Test.YtddadlomkodgcaaDcP
import Derived.Test.YtddadlomkodgcaaHoP
import Derived.Test.YtddadlomkodgcaaMaJ
namespace Go.Proofs.Ytddadlomkodgcaa
open Go.RowKit
set_option maxRecDepth 100000
set_option linter.unusedVariables false

def badStart (who : Int) (op : Nat) : Prop := inB who 64 = false ∨ op < 1 ∨ 3 < op
instance (who : Int) (op : Nat) : Decidable (badStart who op) := by unfold badStart; exact inferInstance
def startE (calls : List CallV) (who : Int) (op : Nat) : Int := if badStart who op then 1 else if (calls.getD who.toNat noCall).op ≠ 0 then 9 else 0
def startC (calls : List CallV) (who : Int) (op : Nat) : List CallV := if badStart who op then calls else if (calls.getD who.toNat noCall).op ≠ 0 then calls else calls.set who.toNat ⟨op, false, 0⟩
def startN (who : Int) (op : Nat) : Int := if badStart who op then 1 else 7
theorem notBad {who : Int} {op : Nat} (h : ¬ badStart who op) : ∃ i : Nat, (i : Int) = who ∧ who.toNat = i ∧ i < 64 ∧ 1 ≤ op ∧ op ≤ 3 := by
  unfold badStart at h
  simp only [not_or, Bool.not_eq_false] at h
  have := inB_iff.mp h.1
  exact ⟨who.toNat, by omega, rfl, by omega, by omega, by omega⟩
structure StA where
  d : Bool
  e : Int
  n : Int
  er : Int
  v : Nat
  k : Nat
  calls : List CallV
def stepA (limit v k : Nat) (calls : List CallV) (who : Int) : StA :=
  if inB who 64 = false then ⟨false, 0, 0, 1, v, k, calls⟩
  else if (calls.getD who.toNat noCall).op = 0 then ⟨false, 0, 0, 7, v, k, calls⟩
  else ⟨(stepO limit v (calls.getD who.toNat noCall)).d, (stepO limit v (calls.getD who.toNat noCall)).e, (stepO limit v (calls.getD who.toNat noCall)).n, 0, (stepO limit v (calls.getD who.toNat noCall)).v, k + 1, calls.set who.toNat (stepO limit v (calls.getD who.toNat noCall)).x⟩
def stepN (who : Int) : Int := if inB who 64 = false then 1 else 7
def pendV (calls : List CallV) (who : Int) : Bool := if inB who 64 = false then false else decide ((calls.getD who.toNat noCall).op ≠ 0)

section
variable (w : World) (c b bw d limit v k : Nat) (calls : List CallV)
theorem start_all (h : CntS w c b bw limit v k calls) (who : Int) (op : Nat) :
    Calls Try.prog 27 #[.pointer (some ⟨c, 0, none⟩), .int .i64 who, .int .u8 (op : Int)] w fun e w' => e = .returned (.int .i64 (startE calls who op)) ∧ CntS w' c b bw limit v k (startC calls who op) ∧ Off [c, b, bw] w w' := by
  by_cases hb : badStart who op
  · refine (start_bad w (.pointer (some ⟨c, 0, none⟩)) who op hb).mono fun e w' ⟨h1, h2⟩ => ?_
    subst h2
    unfold startE startC
    rw [if_pos hb, if_pos hb]
    exact ⟨h1, h, Off.refl _ _⟩
  · obtain ⟨i, rfl, hi, hl, h1, h3⟩ := notBad hb
    unfold startE startC
    rw [if_neg hb, if_neg hb, hi]
    by_cases hp : (calls.getD i noCall).op = 0
    · rw [if_neg (fun hn => hn hp), if_neg (fun hn => hn hp)]
      exact start_ok w c b bw limit v k calls h i hl op h1 h3 hp
    · rw [if_pos hp, if_pos hp]
      exact (start_busy w c b bw limit v k calls h i hl op h1 h3 hp).mono fun e w' ⟨h1, h2⟩ => by subst h2; exact ⟨h1, h, Off.refl _ _⟩
theorem dstart_all (h : DcS w d limit v k calls) (who : Int) (op : Nat) :
    Calls Try.prog 28 #[.pointer (some ⟨d, 0, none⟩), .int .i64 who, .int .u8 (op : Int)] w fun e w' => e = .returned (.int .i64 (startE calls who op)) ∧ DcS w' d limit v k (startC calls who op) ∧ Off [d] w w' := by
  by_cases hb : badStart who op
  · refine (dstart_bad w (.pointer (some ⟨d, 0, none⟩)) who op hb).mono fun e w' ⟨h1, h2⟩ => ?_
    subst h2
    unfold startE startC
    rw [if_pos hb, if_pos hb]
    exact ⟨h1, h, Off.refl _ _⟩
  · obtain ⟨i, rfl, hi, hl, h1, h3⟩ := notBad hb
    unfold startE startC
    rw [if_neg hb, if_neg hb, hi]
    by_cases hp : (calls.getD i noCall).op = 0
    · rw [if_neg (fun hn => hn hp), if_neg (fun hn => hn hp)]
      exact dstart_ok w d limit v k calls h i hl op h1 h3 hp
    · rw [if_pos hp, if_pos hp]
      exact (dstart_busy w d limit v k calls h i hl op h1 h3 hp).mono fun e w' ⟨h1, h2⟩ => by subst h2; exact ⟨h1, h, Off.refl _ _⟩
theorem startN_all (who : Int) (op : Nat) :
    Calls Try.prog 27 #[.pointer none, .int .i64 who, .int .u8 (op : Int)] w fun e w' => e = .returned (.int .i64 (startN who op)) ∧ w = w' := by
  by_cases hb : badStart who op
  · unfold startN; rw [if_pos hb]; exact start_bad w _ who op hb
  · obtain ⟨i, rfl, hi, hl, h1, h3⟩ := notBad hb
    unfold startN; rw [if_neg hb]; exact start_nil w i op (inB_iff.mpr (by omega)) h1 h3
theorem dstartN_all (who : Int) (op : Nat) :
    Calls Try.prog 28 #[.pointer none, .int .i64 who, .int .u8 (op : Int)] w fun e w' => e = .returned (.int .i64 (startN who op)) ∧ w = w' := by
  by_cases hb : badStart who op
  · unfold startN; rw [if_pos hb]; exact dstart_bad w _ who op hb
  · obtain ⟨i, rfl, hi, hl, h1, h3⟩ := notBad hb
    unfold startN; rw [if_neg hb]; exact dstart_nil w i op (inB_iff.mpr (by omega)) h1 h3
theorem in_nat {who : Int} (h : ¬ inB who 64 = false) : ∃ i : Nat, (i : Int) = who ∧ who.toNat = i ∧ i < 64 := by
  simp only [Bool.not_eq_false] at h
  have := inB_iff.mp h
  exact ⟨who.toNat, by omega, rfl, by omega⟩
theorem step_all (h : CntS w c b bw limit v k calls) (hk : k < 9223372036854775807) (hv : v ≤ limit) (hl : limit ≤ 4611686018427387903) (ho : ∀ j, j < 64 → OkCall limit (calls.getD j noCall)) (who : Int) :
    Calls Try.prog 29 #[.pointer (some ⟨c, 0, none⟩), .int .i64 who] w fun e w' => e = .returned (.tuple #[resV (stepA limit v k calls who).d (stepA limit v k calls who).e (stepA limit v k calls who).n, .int .i64 (stepA limit v k calls who).er]) ∧
      CntS w' c b bw limit (stepA limit v k calls who).v (stepA limit v k calls who).k (stepA limit v k calls who).calls ∧ Off [c, b, bw] w w' := by
  by_cases hb : inB who 64 = false
  · have e : stepA limit v k calls who = ⟨false, 0, 0, 1, v, k, calls⟩ := if_pos hb
    rw [e]
    exact (step_out w _ who hb).mono fun e w' ⟨h1, h2⟩ => ⟨h1, h.below h2, Off.of_below h2⟩
  · obtain ⟨i, rfl, hi, hl2⟩ := in_nat hb
    by_cases hp : (calls.getD i noCall).op = 0
    · have e : stepA limit v k calls (i : Int) = ⟨false, 0, 0, 7, v, k, calls⟩ := by unfold stepA; rw [if_neg hb, hi, if_pos hp]
      rw [e]
      have hpi := pend_at _ c b bw limit v k calls (h.alloc (.cells #[.bool false, .int .i64 0, .int .i64 0] 71)) i hl2 _ rfl
      rw [decide_eq_false (fun hn => hn hp)] at hpi
      exact (step_idle w _ i (by simpa using hb) hpi).mono fun e w' ⟨h1, h2⟩ => ⟨h1, h.below h2, Off.of_below h2⟩
    · have e : stepA limit v k calls (i : Int) = ⟨(stepO limit v (calls.getD i noCall)).d, (stepO limit v (calls.getD i noCall)).e, (stepO limit v (calls.getD i noCall)).n, 0, (stepO limit v (calls.getD i noCall)).v, k + 1, calls.set i (stepO limit v (calls.getD i noCall)).x⟩ := by
        unfold stepA; rw [if_neg hb, hi, if_neg hp]
      rw [e]
      exact step_any w c b bw limit v k calls h hk hv hl i hl2 _ rfl hp (ho i hl2)
theorem dstep_any (h : DcS w d limit v k calls) (hk : k < 9223372036854775807) (hv : v ≤ limit) (hl : limit ≤ 4611686018427387903) (i : Nat) (hi : i < 64) (x : CallV) (hx : calls.getD i noCall = x) (hp : x.op ≠ 0) (ho : OkCall limit x) :
    Calls Try.prog 30 #[.pointer (some ⟨d, 0, none⟩), .int .i64 (i : Int)] w fun e w' => e = .returned (.tuple #[resV (stepO limit v x).d (stepO limit v x).e (stepO limit v x).n, .int .i64 0]) ∧
      DcS w' d limit (stepO limit v x).v (k + 1) (calls.set i (stepO limit v x).x) ∧ Off [d] w w' := by
  have h3 := ho.op
  have hld := ho.ld
  rcases hl0 : x.ld with _ | _
  · by_cases o3 : x.op = 3
    · rw [show stepO limit v x = ⟨true, 0, (v : Int), v, noCall⟩ by unfold stepO; rw [hl0, if_neg (by decide), if_pos o3]]
      exact dstep_read w d limit v k calls h hk hv hl i hi x hx o3 hl0
    · by_cases o1 : x.op = 1
      · by_cases hvl : v = limit
        · rw [show stepO limit v x = ⟨true, 10, 0, v, noCall⟩ by unfold stepO; rw [hl0, if_neg (by decide), if_neg o3, if_pos o1, if_pos hvl]]
          exact dstep_full w d limit v k calls h hk hv hl i hi x hx o1 hl0 hvl
        · rw [show stepO limit v x = ⟨false, 0, 0, v, ⟨1, true, v⟩⟩ by unfold stepO; rw [hl0, if_neg (by decide), if_neg o3, if_pos o1, if_neg hvl]]
          exact dstep_loadup w d limit v k calls h hk hv hl i hi x hx o1 hl0 hvl
      · have o2 : x.op = 2 := by omega
        by_cases hvl : v = 0
        · rw [show stepO limit v x = ⟨true, 5, 0, v, noCall⟩ by unfold stepO; rw [hl0, if_neg (by decide), if_neg o3, if_neg o1, if_pos hvl]]
          exact dstep_range w d limit v k calls h hk hv hl i hi x hx o2 hl0 hvl
        · rw [show stepO limit v x = ⟨false, 0, 0, v, ⟨2, true, v⟩⟩ by unfold stepO; rw [hl0, if_neg (by decide), if_neg o3, if_neg o1, if_neg hvl]]
          exact dstep_loaddown w d limit v k calls h hk hv hl i hi x hx o2 hl0 hvl
  · have hk2 := hld hl0
    by_cases hvo : v = x.old
    · rcases hk2 with ⟨o1, hlt⟩ | ⟨o2, h0, hle⟩
      · rw [show stepO limit v x = ⟨true, 0, (v : Int) + 1, v + 1, noCall⟩ by unfold stepO; rw [hl0, if_pos rfl, if_pos hvo, if_neg (by omega)]]
        exact dstep_up w d limit v k calls h hk hv hl i hi x hx o1 hl0 hvo (by omega)
      · rw [show stepO limit v x = ⟨true, 0, (v : Int) - 1, v - 1, noCall⟩ by unfold stepO; rw [hl0, if_pos rfl, if_pos hvo, if_pos o2]]
        show Calls _ _ _ w fun e w' => e = .returned (.tuple #[resV true 0 ((v : Int) - 1), .int .i64 0]) ∧ DcS w' d limit (v - 1) (k + 1) (calls.set i noCall) ∧ Off [d] w w'
        rw [show (v : Int) - 1 = (v : Int) + 1 - 2 by omega]
        exact dstep_down w d limit v k calls h hk hv hl i hi x hx o2 hl0 hvo (by omega)
    · rw [show stepO limit v x = ⟨false, 0, 0, v, ⟨x.op, false, 0⟩⟩ by unfold stepO; rw [hl0, if_pos rfl, if_neg hvo]]
      exact dstep_fail w d limit v k calls h hk hv hl i hi x hx hl0 hp hvo
theorem dstep_all (h : DcS w d limit v k calls) (hk : k < 9223372036854775807) (hv : v ≤ limit) (hl : limit ≤ 4611686018427387903) (ho : ∀ j, j < 64 → OkCall limit (calls.getD j noCall)) (who : Int) :
    Calls Try.prog 30 #[.pointer (some ⟨d, 0, none⟩), .int .i64 who] w fun e w' => e = .returned (.tuple #[resV (stepA limit v k calls who).d (stepA limit v k calls who).e (stepA limit v k calls who).n, .int .i64 (stepA limit v k calls who).er]) ∧
      DcS w' d limit (stepA limit v k calls who).v (stepA limit v k calls who).k (stepA limit v k calls who).calls ∧ Off [d] w w' := by
  by_cases hb : inB who 64 = false
  · have e : stepA limit v k calls who = ⟨false, 0, 0, 1, v, k, calls⟩ := if_pos hb
    rw [e]
    exact (dstep_out w _ who hb).mono fun e w' ⟨h1, h2⟩ => ⟨h1, h.off (S := []) (Off.of_below h2) (by simp), Off.of_below h2⟩
  · obtain ⟨i, rfl, hi, hl2⟩ := in_nat hb
    by_cases hp : (calls.getD i noCall).op = 0
    · have e : stepA limit v k calls (i : Int) = ⟨false, 0, 0, 7, v, k, calls⟩ := by unfold stepA; rw [if_neg hb, hi, if_pos hp]
      rw [e]
      exact (dstep_none w d limit v k calls h hk hv hl i hl2 _ rfl hp).mono fun e w' ⟨h1, h2⟩ => ⟨h1, h.off (S := []) (Off.of_below h2) (by simp), Off.of_below h2⟩
    · have e : stepA limit v k calls (i : Int) = ⟨(stepO limit v (calls.getD i noCall)).d, (stepO limit v (calls.getD i noCall)).e, (stepO limit v (calls.getD i noCall)).n, 0, (stepO limit v (calls.getD i noCall)).v, k + 1, calls.set i (stepO limit v (calls.getD i noCall)).x⟩ := by
        unfold stepA; rw [if_neg hb, hi, if_neg hp]
      rw [e]
      exact dstep_any w d limit v k calls h hk hv hl i hl2 _ rfl hp (ho i hl2)
theorem stepN_all (who : Int) :
    Calls Try.prog 29 #[.pointer none, .int .i64 who] w fun e w' => e = .returned (.tuple #[resV false 0 0, .int .i64 (stepN who)]) ∧ Below w.heap.size w w' := by
  by_cases hb : inB who 64 = false
  · unfold stepN; rw [if_pos hb]; exact step_out w _ who hb
  · unfold stepN; rw [if_neg hb]; exact step_none w _ who (by simpa using hb) (fun w => pend_nil w who)
theorem dstepN_all (who : Int) :
    Calls Try.prog 30 #[.pointer none, .int .i64 who] w fun e w' => e = .returned (.tuple #[resV false 0 0, .int .i64 (stepN who)]) ∧ Below w.heap.size w w' := by
  by_cases hb : inB who 64 = false
  · unfold stepN; rw [if_pos hb]; exact dstep_out w _ who hb
  · unfold stepN; rw [if_neg hb]; exact dstep_nil w who (by simpa using hb)
theorem pend_all (h : CntS w c b bw limit v k calls) (who : Int) :
    Calls Try.prog 32 #[.pointer (some ⟨c, 0, none⟩), .int .i64 who] w fun e w' => e = .returned (.bool (pendV calls who)) ∧ w = w' := by
  by_cases hb : inB who 64 = false
  · unfold pendV; rw [if_pos hb]; exact pend_bad w c who hb
  · obtain ⟨i, rfl, hi, hl⟩ := in_nat hb
    unfold pendV; rw [if_neg hb, hi]; exact pend_at w c b bw limit v k calls h i hl _ rfl
theorem dpend_all (h : DcS w d limit v k calls) (who : Int) :
    Calls Try.prog 33 #[.pointer (some ⟨d, 0, none⟩), .int .i64 who] w fun e w' => e = .returned (.bool (pendV calls who)) ∧ w = w' := by
  by_cases hb : inB who 64 = false
  · unfold pendV; rw [if_pos hb]; exact dpend_bad w d who hb
  · obtain ⟨i, rfl, hi, hl⟩ := in_nat hb
    unfold pendV; rw [if_neg hb, hi]; exact dpend_at w d limit v k calls h i hl _ rfl
theorem value_nil : Calls Try.prog 34 #[.pointer none] w fun e w' => e = .returned (.int .i64 0) ∧ w = w' := by
  go_enter Try.func34, Try.ntmps34
  go_wp2
  go_ret
  exact ⟨rfl, rfl⟩
theorem steps_nil : Calls Try.prog 35 #[.pointer none] w fun e w' => e = .returned (.int .i64 0) ∧ w = w' := by
  go_enter Try.func35, Try.ntmps35
  go_wp2
  go_ret
  exact ⟨rfl, rfl⟩
end
theorem same12_any (w : World) (d : Bool) (e n : Int) :
    Calls Try.prog 31 #[.agg #[.bool d, .int .i64 e, .int .i64 n], .agg #[.bool d, .int .i64 e, .int .i64 n]] w fun x w' => x = .returned (.bool true) ∧ Below w.heap.size w w' := by
  have hB : Below w.heap.size w ((w.alloc (.cells #[.bool d, .int .i64 e, .int .i64 n] 71)).alloc (.cells #[.bool d, .int .i64 e, .int .i64 n] 75)) := ((Below.refl _ w).alloc (Nat.le_refl _) _).alloc (by simp) _
  have HB := Lib.hid hB
  clear hB
  have hdd : (d == d) = true := by cases d <;> rfl
  go_enter Try.func31, Try.ntmps31
  go_wp2
  go_ret
  exact ⟨by first | rfl | simp, HB.out⟩
theorem dcz_take : Try.zeroCells86.toList = .int .i64 0 :: .int .i64 0 :: .int .i64 0 :: (List.replicate 64 [Value.int .u8 0, .bool false, .int .i64 0]).flatten := by kernel_rfl
theorem dcz_set (u : Value) : Try.zeroCells86.setIfInBounds 0 u = (u :: .int .i64 0 :: .int .i64 0 :: (List.replicate 64 [Value.int .u8 0, .bool false, .int .i64 0]).flatten : List Value).toArray := by
  apply Array.ext'
  rw [Array.toList_setIfInBounds, dcz_take]
  rfl
theorem rep3_at (m q j : Nat) (hq : q < m) (hj : j < 3) (a b c : Value) : ((List.replicate m [a, b, c]).flatten)[q * 3 + j]? = [a, b, c][j]? := by
  induction m generalizing q with
  | zero => omega
  | succ m ih =>
    rw [List.replicate_succ, List.flatten_cons]
    cases q with
    | zero => rw [Nat.zero_mul, Nat.zero_add, List.getElem?_append_left (by simp; omega)]
    | succ q =>
      rw [List.getElem?_append_right (by simp; omega)]
      have := ih q (by omega)
      rw [show (q + 1) * 3 + j - [a, b, c].length = q * 3 + j by simp; omega]
      exact this
theorem cons3_at {α : Type} (a b c : α) (r : List α) (i : Nat) : (a :: b :: c :: r)[3 + i]? = r[i]? := by rw [Nat.add_comm 3 i]; rfl
theorem dc_new {w : World} {d : Nat} {top : Nat} (h : BlkL w d (.int .i64 (top : Int) :: .int .i64 0 :: .int .i64 0 :: (List.replicate 64 [Value.int .u8 0, .bool false, .int .i64 0]).flatten)) : DcS w d top 0 0 (List.replicate 64 noCall) := by
  have hl : ((List.replicate 64 [Value.int .u8 0, .bool false, .int .i64 0]).flatten).length = 192 := by simp
  have g : ∀ j, (List.replicate 64 noCall).getD j noCall = noCall := by
    intro j
    rw [List.getD_eq_getElem?_getD, List.getElem?_replicate]
    split <;> rfl
  refine ⟨fun _ => 0, fun _ => false, fun _ => 0, ⟨h.lt, h.cell 0 _ rfl, h.cell 1 _ rfl, h.cell 2 _ rfl, fun q hq => h.cell (3 + q * 3) _ ?_, fun q hq => h.cell (3 + q * 3 + 1) _ ?_, fun q hq => h.cell (3 + q * 3 + 2) _ ?_, fun i hi => h.froz i (by rw [List.length_cons, List.length_cons, List.length_cons, hl]; omega)⟩, ⟨by simp, fun q hq => by rw [g]; rfl, fun q hq => by rw [g], fun q hq hn => by rw [g] at hn; cases hn⟩⟩
  · rw [cons3_at]; exact rep3_at 64 q 0 hq (by omega) _ _ _
  · rw [Nat.add_assoc, cons3_at]; exact rep3_at 64 q 1 hq (by omega) _ _ _
  · rw [Nat.add_assoc, cons3_at]; exact rep3_at 64 q 2 hq (by omega) _ _ _
theorem dnew_bad (w : World) (l : Int) (h : isTick l = false) :
    Calls Try.prog 26 #[.int .i64 l] w fun e w' => e = .returned (.tuple #[.pointer none, .int .i64 1]) ∧ w = w' := by
  have HF := Lib.hid (rform_any w l)
  rw [h] at HF
  clear h
  go_enter Try.func26, Try.ntmps26
  go_wp2_with fail
  with_reducible refine HF.out.mono ?_
  rintro e w1 ⟨rfl, hw⟩
  subst hw
  go_wp2
  go_ret2
  exact ⟨rfl, rfl⟩
theorem dnew_ok (w : World) (l : Nat) (h : l ≤ 4611686018427387903) :
    Calls Try.prog 26 #[.int .i64 (l : Int)] w fun e w' => ∃ d, e = .returned (.tuple #[.pointer (some ⟨d, 0, none⟩), .int .i64 0]) ∧ w.heap.size ≤ d ∧ DcS w' d l 0 0 (List.replicate 64 noCall) ∧ Below w.heap.size w w' := by
  have HF := Lib.hid (rform_any w (l : Int))
  rw [isTick_iff.mpr (by omega)] at HF
  clear h
  go_enter Try.func26, Try.ntmps26
  go_wp2_with fail
  with_reducible refine HF.out.mono ?_
  rintro e w1 ⟨rfl, hw⟩
  subst hw
  go_wp2
  go_ret2
  rw [dcz_set]
  exact ⟨w.heap.size, rfl, Nat.le_refl _, dc_new (BlkL.new w _ _), (Below.refl _ w).alloc (Nat.le_refl _) _⟩

/-- Both counters in memory, the one that is asked and the document's; and the pick that is being done. -/
structure CpS (w : World) (top c b bw d : Nat) (wr : World) (v k v2 k2 : Nat) (calls dcalls : List CallV) : Prop where
  cnt : CntS wr c b bw top v k calls
  doc : DcS wr d top v2 k2 dcalls
  bel : Below w.heap.size w wr
  hc : w.heap.size ≤ c
  hb : w.heap.size ≤ b
  hbw : w.heap.size ≤ bw
  hd : w.heap.size ≤ d
  nd : d ∉ [c, b, bw]
section
variable {w wr w' : World} {top c b bw d v k v2 k2 : Nat} {calls dcalls : List CallV}
theorem CpS.off0 (h : CpS w top c b bw d wr v k v2 k2 calls dcalls) (hf : Off [] wr w') : CpS w top c b bw d w' v k v2 k2 calls dcalls :=
  ⟨h.cnt.off hf (by simp) (by simp) (by simp), h.doc.off hf (by simp), h.bel.trans (hf.below h.bel.size (by simp)), h.hc, h.hb, h.hbw, h.hd, h.nd⟩
theorem CpS.alloc (h : CpS w top c b bw d wr v k v2 k2 calls dcalls) (o : Obj) : CpS w top c b bw d (wr.alloc o) v k v2 k2 calls dcalls := h.off0 ((Off.refl [] wr).alloc o)
theorem CpS.drewN (h : CpS w top c b bw d wr v k v2 k2 calls dcalls) (t : Nat) : CpS w top c b bw d (wr.drewN t) v k v2 k2 calls dcalls := h.off0 ⟨rfl, rfl, rfl, Nat.le_refl _, fun _ _ _ => rfl⟩
theorem CpS.below (h : CpS w top c b bw d wr v k v2 k2 calls dcalls) (hb : Below wr.heap.size wr w') : CpS w top c b bw d w' v k v2 k2 calls dcalls := h.off0 (Off.of_below hb)
theorem CpS.act (h : CpS w top c b bw d wr v k v2 k2 calls dcalls) {v' k' : Nat} {calls' : List CallV} (hn : CntS w' c b bw top v' k' calls') (hf : Off [c, b, bw] wr w') : CpS w top c b bw d w' v' k' v2 k2 calls' dcalls :=
  ⟨hn, h.doc.off hf h.nd, hf.up h.bel h.hc h.hb h.hbw, h.hc, h.hb, h.hbw, h.hd, h.nd⟩
theorem CpS.actD (h : CpS w top c b bw d wr v k v2 k2 calls dcalls) {v' k' : Nat} {calls' : List CallV} (hn : DcS w' d top v' k' calls') (hf : Off [d] wr w') : CpS w top c b bw d w' v k v' k' calls calls' := by
  have hnd := h.nd
  simp only [List.mem_cons, List.not_mem_nil, or_false, not_or] at hnd
  exact ⟨h.cnt.off hf (by simpa using Ne.symm hnd.1) (by simpa using Ne.symm hnd.2.1) (by simpa using Ne.symm hnd.2.2), hn, hf.up2 h.bel (by intro x hx; simp at hx; have := h.hd; omega), h.hc, h.hb, h.hbw, h.hd, h.nd⟩
theorem CpS.lts (h : CpS w top c b bw d wr v k v2 k2 calls dcalls) : c < wr.heap.size ∧ b < wr.heap.size ∧ bw < wr.heap.size ∧ d < wr.heap.size := by
  obtain ⟨rg, hm⟩ := h.cnt.m
  exact ⟨h.cnt.blk.lt, hm.blk.lt, hm.wd.lt, h.doc.lt⟩
end
structure CpI (top i v k : Nat) (calls : List CallV) : Prop where
  ki : k ≤ i
  vt : v ≤ top
  okc : ∀ j, j < 64 → OkCall top (calls.getD j noCall)
  len : calls.length = 64
theorem CpI.next {top i v k : Nat} {calls : List CallV} (h : CpI top i v k calls) : CpI top (i + 1) v k calls := ⟨Nat.le_succ_of_le h.ki, h.vt, h.okc, h.len⟩
theorem CpI.start {top i v k : Nat} {calls : List CallV} (h : CpI top i v k calls) (who : Int) (op : Nat) : CpI top (i + 1) v k (startC calls who op) := by
  unfold startC
  by_cases hb : badStart who op
  · rw [if_pos hb]; exact h.next
  · obtain ⟨j, rfl, hj, hl, h1, h3⟩ := notBad hb
    rw [if_neg hb, hj]
    split
    · exact h.next
    · refine ⟨Nat.le_succ_of_le h.ki, h.vt, fun t ht => ?_, by simp [h.len]⟩
      rw [getD_set _ _ _ _ _ (by rw [h.len]; exact hl)]
      split
      · exact OkCall.fresh h1 h3
      · exact h.okc t ht
theorem CpI.step {top i v k : Nat} {calls : List CallV} (h : CpI top i v k calls) (who : Int) : CpI top (i + 1) (stepA top v k calls who).v (stepA top v k calls who).k (stepA top v k calls who).calls := by
  unfold stepA
  by_cases hb : inB who 64 = false
  · rw [if_pos hb]; exact h.next
  · obtain ⟨j, rfl, hj, hl⟩ := in_nat hb
    rw [if_neg hb, hj]
    by_cases hp : (calls.getD j noCall).op = 0
    · rw [if_pos hp]; exact h.next
    · rw [if_neg hp]
      have ho := (h.okc j hl).step hp h.vt
      refine ⟨by show k + 1 ≤ i + 1; have := h.ki; omega, ho.2, fun t ht => ?_, by simp [h.len]⟩
      rw [getD_set _ _ _ _ _ (by rw [h.len]; exact hl)]
      split
      · exact ho.1
      · exact h.okc t ht
/-- The same with a block that holds the pick. -/
structure CpZ (w : World) (top c b bw d z : Nat) (x y : Int) (wr : World) (v k : Nat) (calls dcalls : List CallV) : Prop where
  s : CpS w top c b bw d wr v k v k calls dcalls
  zb : BlkL wr z [.int .i64 x, .int .u8 y]
  nz : z ∉ [c, b, bw, d]
section
variable {w wr w' : World} {top c b bw d z v k : Nat} {x y : Int} {calls dcalls : List CallV}
theorem CpZ.drew (h : CpZ w top c b bw d z x y wr v k calls dcalls) : CpZ w top c b bw d z x y wr.drew v k calls dcalls := ⟨h.s.drewN 1, h.zb.drew, h.nz⟩
theorem CpZ.p0 (h : CpZ w top c b bw d z x y wr v k calls dcalls) : wr.cell? ⟨z, 0, none⟩ = some (.int .i64 x) := h.zb.cell 0 _ rfl
theorem CpZ.p1 (h : CpZ w top c b bw d z x y wr v k calls dcalls) : wr.cell? ⟨z, 1, none⟩ = some (.int .u8 y) := h.zb.cell 1 _ rfl
end
theorem zStart (w : World) (top c b bw d z : Nat) (x y : Int) (v k : Nat) (calls : List CallV) (who : Int) (op : Nat) (wr : World) (dcalls : List CallV) (h : CpZ w top c b bw d z x y wr v k calls dcalls) :
    Calls Try.prog 27 #[.pointer (some ⟨c, 0, none⟩), .int .i64 who, .int .u8 (op : Int)] wr fun e w' => e = .returned (.int .i64 (startE calls who op)) ∧ CpZ w top c b bw d z x y w' v k (startC calls who op) dcalls := by
  refine (start_all wr c b bw top v k calls h.s.cnt who op).mono ?_
  rintro e w' ⟨h1, h2, h3⟩
  have hn := h.nz
  simp only [List.mem_cons, List.not_mem_nil, or_false, not_or] at hn
  exact ⟨h1, h.s.act h2 h3, h.zb.off h3 (by simp; exact ⟨hn.1, hn.2.1, hn.2.2.1⟩), h.nz⟩
theorem zDocStart (w : World) (top c b bw d z : Nat) (x y : Int) (v k : Nat) (dcalls : List CallV) (who : Int) (op : Nat) (wr : World) (calls : List CallV) (h : CpZ w top c b bw d z x y wr v k calls dcalls) :
    Calls Try.prog 28 #[.pointer (some ⟨d, 0, none⟩), .int .i64 who, .int .u8 (op : Int)] wr fun e w' => e = .returned (.int .i64 (startE dcalls who op)) ∧ CpZ w top c b bw d z x y w' v k calls (startC dcalls who op) := by
  refine (dstart_all wr d top v k dcalls h.s.doc who op).mono ?_
  rintro e w' ⟨h1, h2, h3⟩
  have hn := h.nz
  simp only [List.mem_cons, List.not_mem_nil, or_false, not_or] at hn
  exact ⟨h1, h.s.actD h2 h3, h.zb.off h3 (by simp; exact hn.2.2.2), h.nz⟩
end Go.Proofs.Ytddadlomkodgcaa
