/- Contracts of package gcra: room, once, left, wait, decide. -/
import Derived.Test.YtnkecjjfbllgdaaLim
import Derived.Test.YtnkecjjfbllgdaaGcraM
import Derived.Test.YtnkecjjfbllgdaaBlk
namespace Go.Proofs.Ytnkecjjfbllgdaa
open Go.RowKit
set_option maxRecDepth 100000

theorem checkV_tick {T Tau : Nat} (hT : 1 ≤ T) (hT2 : T ≤ 4611686018427387903) (hU : Tau ≤ 4611686018427387903) : checkV (T : Int) (Tau : Int) = 0 := checkV_ok (by omega) (isTick_iff.2 ⟨by omega, by omega⟩) (isTick_iff.2 ⟨by omega, by omega⟩)

set_option maxHeartbeats 400000 in
theorem room_any (w : World) (T Tau B : Nat) (hT : 1 ≤ T) (hT2 : T ≤ 4611686018427387903) (hB : B ≤ 4611686018427387903) :
    Calls Try.prog 106 #[.agg #[.int .i64 (T : Int), .int .i64 (Tau : Int)], .int .i64 (B : Int)] w (ValEnd w (.int .i64 (((4611686018427387903 - B) / T : Nat) : Int))) := by
  obtain ⟨q, hq⟩ : ∃ q, (4611686018427387903 - B) / T = q := ⟨_, rfl⟩
  have hql : q ≤ 4611686018427387903 - B := by rw [← hq]; exact Nat.div_le_self _ _
  have e1 : ((4611686018427387903 : Int) - (B : Int)).tdiv (T : Int) = (q : Int) := by
    rw [← hq, show ((4611686018427387903 : Int) - (B : Int)) = ((4611686018427387903 - B : Nat) : Int) by omega]; exact tdiv_nat _ _
  have e2 : wrap64 (q : Int) = (q : Int) := by unfold wrap64; omega
  have e4 : IntKind.i64.wrap (q : Int) = (q : Int) := IntWalk.i64_in _ (by omega)
  have t1 : ((T : Int) == 0) = false := beq_eq_false_iff_ne.2 (by omega)
  have t2 : ¬ (T : Int) = 0 := by omega
  have b1 : (B : Int) ≤ 4611686018427387903 := by omega
  have b0 : (0 : Int) ≤ B := by omega
  rw [hq]
  clear hq hql
  go_enter Try.func106, Try.ntmps106
  go_wp2
  go_ret
  exact ⟨rfl, (Below.refl _ _).alloc (Nat.le_refl _) _⟩

set_option maxHeartbeats 400000 in
theorem gonce_any (w : World) (T Tau a : Nat) (hT : 1 ≤ T) (hT2 : T ≤ 4611686018427387903) (hU : Tau ≤ 4611686018427387903) (ha : a ≤ Tau) :
    Calls Try.prog 105 #[.agg #[.int .i64 (T : Int), .int .i64 (Tau : Int)], .int .i64 (a : Int)] w (ValEnd w (.int .i64 (((Tau - a) / T + 1 : Nat) : Int))) := by
  have hv : dwithV (T : Int) ((Tau - a : Nat) : Int) 0 = .tuple #[.int .i64 (((Tau - a) / T + 1 : Nat) : Int), .int .i64 0] := by
    unfold dwithV
    rw [if_neg (by rw [checkV_tick hT hT2 (by omega)]; decide)]
    unfold withV; simp
  have HO := Lib.hid (fun w => onceP_any w (T : Int) ((Tau - a : Nat) : Int))
  rw [hv] at HO
  have e1 : (Tau : Int) - (a : Int) = ((Tau - a : Nat) : Int) := by omega
  have e2 : wrap64 ((Tau : Int) - (a : Int)) = ((Tau - a : Nat) : Int) := by unfold wrap64; omega
  have e3 : IntKind.i64.wrap ((Tau : Int) - (a : Int)) = ((Tau - a : Nat) : Int) := by rw [e1]; exact IntWalk.i64_in _ (by omega)
  generalize Tau - a = u at *
  generalize u / T + 1 = v at *
  clear hv
  go_enter Try.func105, Try.ntmps105
  go_wp2_with fail
  refine (HO.out _).mono ?_
  rintro e w1 ⟨rfl, hb⟩
  have HB := Lib.hid hb
  clear hb
  go_wp2
  go_ret
  exact ⟨rfl, ((Below.refl _ _).alloc (Nat.le_refl _) _).trans (HB.out.mono (by simp))⟩

/-- Both cells of a limit that a call holds. -/
def LimAt (w : World) (b : Nat) (T Tau : Nat) : Prop := w.cell? ⟨b, 0, none⟩ = some (.int .i64 (T : Int)) ∧ w.cell? ⟨b, 1, none⟩ = some (.int .i64 (Tau : Int)) ∧ b + 1 ≤ w.heap.size
theorem LimAt.below {w w1 : World} {b T Tau : Nat} (h : LimAt w b T Tau) (hb : Below w.heap.size w w1) : LimAt w1 b T Tau :=
  ⟨(hb.cell (p := ⟨b, 0, none⟩) (by show b < _; have := h.2.2; omega)).trans h.1, (hb.cell (p := ⟨b, 1, none⟩) (by show b < _; have := h.2.2; omega)).trans h.2.1, Nat.le_trans h.2.2 hb.size⟩

set_option maxHeartbeats 800000 in
theorem gleft_any (w : World) (T Tau tat now : Nat) (hT : 1 ≤ T) (hT2 : T ≤ 4611686018427387903) (hU : Tau ≤ 4611686018427387903) (h1 : tat ≤ 4611686018427387903) (h2 : now ≤ 4611686018427387903) :
    Calls Try.prog 95 #[.agg #[.int .i64 (T : Int), .int .i64 (Tau : Int)], .int .i64 (tat : Int), .int .i64 (now : Int)] w (ValEnd w (.int .i64 ((leftV T Tau tat now : Nat) : Int))) := by
  have hm : (if tat < now then (now : Int) else (tat : Int)) = ((max tat now : Nat) : Int) := by split <;> omega
  have hB : max tat now ≤ 4611686018427387903 := by omega
  have hn : now ≤ max tat now := by omega
  have HV : Hid (leftV T Tau tat now = leftB T Tau (max tat now) now) := Lib.hid rfl
  generalize max tat now = B at *
  have e1 : (B : Int) - (now : Int) = ((B - now : Nat) : Int) := by omega
  have HO := Lib.hid (fun w ha => gonce_any w T Tau (B - now) hT hT2 hU ha)
  have HR := Lib.hid (fun w => room_any w T Tau B hT hT2 hB)
  have ha' : B - now ≤ 4611686018427387903 := by omega
  unfold leftB at HV
  generalize B - now = a at *
  rcases Nat.lt_or_ge Tau a with hlt | hge
  · rw [if_pos hlt] at HV
    have hd : decide ((Tau : Int) < (a : Int)) = true := decide_eq_true (by omega)
    go_enter Try.func95, Try.ntmps95
    go_wp2
    go_ret
    exact ⟨by rw [HV.out]; rfl, (Below.refl _ _).alloc (Nat.le_refl _) _⟩
  · rw [if_neg (by omega)] at HV
    have hd : decide ((Tau : Int) < (a : Int)) = false := decide_eq_false (by omega)
    generalize (Tau - a) / T + 1 = p at HO HV
    generalize (4611686018427387903 - B) / T = q at HR HV
    go_enter Try.func95, Try.ntmps95
    go_wp2_with fail
    go_region_held3 (fun w' => w'.cell? ⟨w.heap.size, 0, none⟩ = some (.int .i64 (T : Int)) ∧ w'.cell? ⟨w.heap.size, 1, none⟩ = some (.int .i64 (Tau : Int)))
      (go_keep)
      (first
        | ((with_reducible refine (HO.out _ hge).mono ?_); rintro e w1 ⟨rfl, hbk⟩; have hz1 : w.heap.size + 1 ≤ w1.heap.size := (by have := hbk.size; simpa using this); have ha1 : w1.cell? ⟨w.heap.size, 0, none⟩ = some (.int .i64 (T : Int)) := (by rw [hbk.cell (by simp)]; simp); have hb1 : w1.cell? ⟨w.heap.size, 1, none⟩ = some (.int .i64 (Tau : Int)) := (by rw [hbk.cell (by simp)]; simp); have HB1 := Lib.hid hbk; clear hbk)
        | ((with_reducible refine (HR.out _).mono ?_); rintro e w2 ⟨rfl, hbk⟩; have hz2 : w1.heap.size ≤ w2.heap.size := (by have := hbk.size; simpa using this); have ha2 : w2.cell? ⟨w.heap.size, 0, none⟩ = some (.int .i64 (T : Int)) := (by rw [hbk.cell (by simp; omega)]; simpa using ha1); have hb2 : w2.cell? ⟨w.heap.size, 1, none⟩ = some (.int .i64 (Tau : Int)) := (by rw [hbk.cell (by simp; omega)]; simpa using hb1); have HB2 := Lib.hid hbk; clear hbk))
    have HBW : Hid (Below w.heap.size w w2) := by
      have b0 : Below w.heap.size w (w.alloc (.cells #[.int .i64 (T : Int), .int .i64 (Tau : Int)] 50)).drew := ((Below.refl _ _).alloc (Nat.le_refl _) _).drew
      exact Lib.hid ((b0.trans (HB1.out.mono (by simp))).trans (HB2.out.mono (by omega)))
    go_wp2
    all_goals
      go_ret
      exact ⟨ret_int (by rw [HV.out]; omega), HBW.out⟩

set_option maxHeartbeats 1600000 in
theorem gwait_any (w : World) (T Tau tat now n : Nat) (hT : 1 ≤ T) (hT2 : T ≤ 4611686018427387903) (hU : Tau ≤ 4611686018427387903) (h1 : tat ≤ 4611686018427387903) (h2 : now ≤ 4611686018427387903) (h3 : n ≤ 4611686018427387903) (hg : grB T Tau tat now n = false) :
    Calls Try.prog 103 #[.agg #[.int .i64 (T : Int), .int .i64 (Tau : Int)], .int .i64 (tat : Int), .int .i64 (now : Int), .int .i64 (n : Int)] w (ValEnd w (.int .i64 ((waitV T Tau tat now n : Nat) : Int))) := by
  have hm : (if tat < now then (now : Int) else (tat : Int)) = ((max tat now : Nat) : Int) := by split <;> omega
  have hB : max tat now ≤ 4611686018427387903 := by omega
  have hn : now ≤ max tat now := by omega
  have hw := fun h => waitV_of (n := n) hT h1 h2 hg h
  have HV : Hid (waitV T Tau tat now n = if Tau / T + 1 < n ∨ (4611686018427387903 - max tat now) / T < n then 4611686018427387903 else max tat now + (n - 1) * T - now - Tau) := Lib.hid rfl
  generalize max tat now = B at *
  have HO := Lib.hid (fun w => gonce_any w T Tau 0 hT hT2 hU (by omega))
  have HR := Lib.hid (fun w => room_any w T Tau B hT hT2 hB)
  rw [Nat.sub_zero] at HO
  generalize Tau / T + 1 = p at *
  generalize (4611686018427387903 - B) / T = q at *
  by_cases hp : p < n
  · rw [if_pos (.inl hp)] at HV
    have hd : decide ((p : Int) < (n : Int)) = true := decide_eq_true (by omega)
    clear hw hg
    go_enter Try.func103, Try.ntmps103
    go_wp2_with fail
    refine (HO.out _).mono ?_
    rintro e w1 ⟨rfl, hb⟩
    have HB1 := Lib.hid hb
    clear hb
    go_wp2
    go_ret
    exact ⟨by rw [HV.out]; rfl, ((Below.refl _ _).alloc (Nat.le_refl _) _).trans (HB1.out.mono (by simp))⟩
  · have hd : decide ((p : Int) < (n : Int)) = false := decide_eq_false (by omega)
    by_cases hq : q < n
    · rw [if_pos (.inr hq)] at HV
      have hd2 : decide ((q : Int) < (n : Int)) = true := decide_eq_true (by omega)
      clear hw hg
      go_enter Try.func103, Try.ntmps103
      go_wp2_with fail
      refine (HO.out _).mono ?_
      rintro e w1 ⟨rfl, hb⟩
      have HB1 := Lib.hid hb
      have ha1 : w1.cell? ⟨w.heap.size, 0, none⟩ = some (.int .i64 (T : Int)) := by rw [hb.cell (by simp)]; simp
      have hb1 : w1.cell? ⟨w.heap.size, 1, none⟩ = some (.int .i64 (Tau : Int)) := by rw [hb.cell (by simp)]; simp
      clear hb
      go_wp2_with fail
      refine (HR.out _).mono ?_
      rintro e w2 ⟨rfl, hb⟩
      have HB2 := Lib.hid (((Below.refl _ _).alloc (Nat.le_refl _) _).trans ((HB1.out.mono (by simp)).trans (hb.mono (by have := HB1.out.size; simp at this; omega))))
      clear hb
      go_wp2
      go_ret
      exact ⟨by rw [HV.out]; rfl, HB2.out⟩
    · obtain ⟨g0, g1, g2, g3, g4⟩ := hw (by omega)
      rw [if_neg (by omega)] at HV
      have hd2 : decide ((q : Int) < (n : Int)) = false := decide_eq_false (by omega)
      have e0 := mul_pred (T := T) g0
      generalize hr : (n - 1) * T = r at *
      have e1 : ((n : Int) - 1) * (T : Int) = (r : Int) := by rw [← hr, show ((n : Int) - 1) = ((n - 1 : Nat) : Int) by omega]; push_cast; rfl
      have hsum : B + r ≤ 4611686018427387903 := by omega
      have g5 : now + Tau < B + r := g1
      clear hw hg g2 e0 hr hp hq
      obtain rfl : B = tat := by split at hm <;> omega
      clear hm
      have hnt : ¬ B < now := by omega
      go_enter Try.func103, Try.ntmps103
      go_wp2_with fail
      refine (HO.out _).mono ?_
      rintro e w1 ⟨rfl, hb⟩
      have HB1 := Lib.hid hb
      have ha1 : w1.cell? ⟨w.heap.size, 0, none⟩ = some (.int .i64 (T : Int)) := by rw [hb.cell (by simp)]; simp
      have hb1 : w1.cell? ⟨w.heap.size, 1, none⟩ = some (.int .i64 (Tau : Int)) := by rw [hb.cell (by simp)]; simp
      clear hb
      go_wp2_with fail
      refine (HR.out _).mono ?_
      rintro e w2 ⟨rfl, hb⟩
      have HB2 := Lib.hid (((Below.refl _ _).alloc (Nat.le_refl _) _).trans ((HB1.out.mono (by simp)).trans (hb.mono (by have := HB1.out.size; simp at this; omega))))
      have ha2 : w2.cell? ⟨w.heap.size, 0, none⟩ = some (.int .i64 (T : Int)) := by rw [hb.cell (by have := HB1.out.size; simp at this; simp; omega)]; exact ha1
      have hb2 : w2.cell? ⟨w.heap.size, 1, none⟩ = some (.int .i64 (Tau : Int)) := by rw [hb.cell (by have := HB1.out.size; simp at this; simp; omega)]; exact hb1
      clear hb
      go_wp2
      all_goals (first | (exfalso; have := of_decide_eq_false hd; have := of_decide_eq_false hd2; omega) | (go_ret; exact ⟨ret_int (by rw [HV.out]; omega), HB2.out⟩))

/-- The cells of an answer. -/
abbrev AnsV (g : Bool) (t x l : Nat) : Value := .agg #[.bool g, .int .i64 (t : Int), .int .i64 (x : Int), .int .i64 (l : Int)]
/-- What decide answers. -/
def decV (T Tau tat now n : Nat) : Value := AnsV (grB T Tau tat now n) (tatV T Tau tat now n) (wtV T Tau tat now n) (leftV T Tau (tatV T Tau tat now n) now)
end Go.Proofs.Ytnkecjjfbllgdaa
