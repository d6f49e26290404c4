/- The law HashOrders, and the contract of the document's Order. -/
import Derived.Test.YtpjgpiiibgogeaaAwake2
namespace Go.Proofs.Ytpjgpiiibgogeaa
open Go.RowKit
set_option maxRecDepth 100000

theorem orderV_self (a : List Nat) : orderV a a = 0 := by
  induction a with
  | nil => rfl
  | cons x a ih => simp [orderV, ih]
theorem orderV_bd : ∀ a b : List Nat, orderV a b = -1 ∨ orderV a b = 0 ∨ orderV a b = 1
  | [], [] => .inr (.inl rfl)
  | [], _ :: _ => .inl rfl
  | _ :: _, [] => .inr (.inr rfl)
  | x :: a, y :: b => by
    have ih := orderV_bd a b
    simp only [orderV]
    split
    · simp
    · split
      · simp
      · exact ih
theorem orderV_neg : ∀ a b : List Nat, orderV b a = - orderV a b
  | [], [] => rfl
  | [], _ :: _ => rfl
  | _ :: _, [] => rfl
  | x :: a, y :: b => by
    have ih := orderV_neg a b
    simp only [orderV]
    rcases Nat.lt_trichotomy x y with h | h | h
    · rw [if_pos h, if_neg (by omega), if_pos h]; rfl
    · rw [if_neg (by omega), if_neg (by omega), if_neg (by omega), if_neg (by omega), ih]
    · rw [if_pos h, if_neg (by omega), if_pos h]
theorem orderV_zero : ∀ {a b : List Nat}, orderV a b = 0 → a = b
  | [], [], _ => rfl
  | [], _ :: _, h => by simp [orderV] at h
  | _ :: _, [], h => by simp [orderV] at h
  | x :: a, y :: b, h => by
    simp only [orderV] at h
    rcases Nat.lt_trichotomy x y with g | g | g
    · rw [if_pos g] at h; omega
    · rw [if_neg (by omega), if_neg (by omega)] at h
      rw [g, orderV_zero h]
    · rw [if_neg (by omega), if_pos g] at h; omega
theorem orderV_le_trans : ∀ {a b c : List Nat}, orderV a b ≤ 0 → orderV b c ≤ 0 → orderV a c ≤ 0 ∧ (orderV a b < 0 ∨ orderV b c < 0 → orderV a c < 0)
  | [], [], c, _, h2 => ⟨h2, fun h => by
      rcases h with h | h
      · simp [orderV] at h
      · exact h⟩
  | [], _ :: _, [], _, h2 => by simp [orderV] at h2
  | [], _ :: _, _ :: _, _, _ => by simp [orderV]
  | _ :: _, [], _, h1, _ => by simp [orderV] at h1
  | _ :: _, _ :: _, [], _, h2 => by simp [orderV] at h2
  | x :: a, y :: b, z :: c, h1, h2 => by
    have ih := fun p q => orderV_le_trans (a := a) (b := b) (c := c) p q
    simp only [orderV] at h1 h2 ⊢
    rcases Nat.lt_trichotomy x y with g | g | g
    · rcases Nat.lt_trichotomy y z with k | k | k
      · simp [show x < z by omega]
      · subst k; simp [g]
      · simp [show ¬ y < z by omega, k] at h2
    · subst g
      simp only [Nat.lt_irrefl, if_false] at h1 ⊢
      rcases Nat.lt_trichotomy x z with k | k | k
      · simp [k]
      · subst k
        simp only [Nat.lt_irrefl, if_false] at h2 ⊢
        exact ih h1 h2
      · simp [show ¬ x < z by omega, k] at h2
    · simp [show ¬ x < y by omega, g] at h1

/-- Alike below k. -/
theorem orderV_drop {a b : List Nat} {k : Nat} (h : a.take k = b.take k) (ha : k ≤ a.length) (hb : k ≤ b.length) : orderV a b = orderV (a.drop k) (b.drop k) := by
  induction k generalizing a b with
  | zero => simp
  | succ k ih =>
    rcases a with _ | ⟨x, a⟩
    · simp at ha
    · rcases b with _ | ⟨y, b⟩
      · simp at hb
      · simp only [List.take_succ_cons, List.cons.injEq] at h
        simp only [List.drop_succ_cons]
        rw [← ih h.2 (by simpa using ha) (by simpa using hb)]
        simp only [orderV]
        rw [if_neg (by omega), if_neg (by omega)]
theorem orderV_at {a b : List Nat} {k : Nat} (h : a.take k = b.take k) (ha : k < a.length) (hb : k < b.length) :
    (a.getD k 0 < b.getD k 0 → orderV a b = -1) ∧ (b.getD k 0 < a.getD k 0 → orderV a b = 1) := by
  rw [orderV_drop h (by omega) (by omega), List.drop_eq_getElem_cons ha, List.drop_eq_getElem_cons hb]
  have e1 : a.getD k 0 = a[k] := by simp [List.getD_eq_getElem?_getD, ha]
  have e2 : b.getD k 0 = b[k] := by simp [List.getD_eq_getElem?_getD, hb]
  rw [e1, e2]
  simp only [orderV]
  exact ⟨fun h => by rw [if_pos h], fun h => by rw [if_neg (by omega), if_pos h]⟩
theorem orderV_end {a b : List Nat} {k : Nat} (h : a.take k = b.take k) (ha : k ≤ a.length) (hb : k ≤ b.length) (hk : k = a.length ∨ k = b.length) :
    (a.length < b.length → orderV a b = -1) ∧ (b.length < a.length → orderV a b = 1) ∧ (a.length = b.length → orderV a b = 0) := by
  rw [orderV_drop h ha hb]
  have l1 := List.length_drop (i := k) (l := a)
  have l2 := List.length_drop (i := k) (l := b)
  generalize a.drop k = x at *
  generalize b.drop k = y at *
  rcases x with _ | ⟨p, x⟩
  · rcases y with _ | ⟨q, y⟩
    · simp at l1 l2
      exact ⟨fun h => by omega, fun h => by omega, fun _ => rfl⟩
    · simp at l1 l2
      exact ⟨fun _ => rfl, fun h => by omega, fun h => by omega⟩
  · rcases y with _ | ⟨q, y⟩
    · simp at l1 l2
      exact ⟨fun h => by omega, fun _ => rfl, fun h => by omega⟩
    · simp at l1 l2
      omega

def OrdEnd (w : World) (v : Int) (e : Ending) (w' : World) : Prop := e = .returned (.int .i64 v) ∧ ∃ t, w' = w.drewN t

set_option maxRecDepth 100000 in
set_option maxHeartbeats 1600000 in
theorem rorder_any (w : World) (B B' : Nat) (A A' : Option Addr) (n c m d : Nat) (xs ys : List Nat) (h : Arg w B A n c xs) (h' : Arg w B' A' m d ys) :
    Calls Try.prog 92 #[.slice A n c, .slice A' m d] w (OrdEnd w (orderV xs ys)) := by
  have HXL := Lib.hid h.len
  have HYL := Lib.hid h'.len
  have hle := h.le
  have hcap := h.cap
  unfold maxLen at hcap
  have hle' := h'.le
  have hcap' := h'.cap
  unfold maxLen at hcap'
  go_enter Try.func92, Try.ntmps92
  go_wp2
  go_loopw [5] (fun iv wr => SameInv w xs ys (min n m) iv wr) (fun iv _ => n - (intOf iv).toNat)
  case atStart => exact ⟨0, 0, Nat.zero_le _, rfl, rfl, rfl⟩
  case round =>
    obtain ⟨k, t, hk, rfl, he, rfl⟩ := hrel
    have hkn : k ≤ n := by omega
    have hkm : k ≤ m := by omega
    rcases Nat.lt_or_ge k (min n m) with h1 | h1
    · have h1n : k < n := by omega
      have h1m : k < m := by omega
      obtain ⟨b1, o1, rfl, _, hc1⟩ := h.at_ (by omega)
      obtain ⟨b2, o2, rfl, _, hc2⟩ := h'.at_ (by omega)
      have hk1 := hc1 k h1n
      have hk2 := hc2 k h1m
      have hst := take_succ_eq (k := k) he (by rw [HXL.out]; exact h1n) (by rw [HYL.out]; exact h1m)
      obtain ⟨hlt1, hlt2⟩ := orderV_at (k := k) he (by rw [HXL.out]; exact h1n) (by rw [HYL.out]; exact h1m)
      have hlx := h.lt k
      have hly := h'.lt k
      clear hc1 hc2 h h' he
      generalize xs.getD k 0 = x at hk1 hst hlx hlt1 hlt2
      generalize ys.getD k 0 = y at hk2 hst hly hlt1 hlt2
      have HST := Lib.hid hst
      have HL1 := Lib.hid hlt1
      have HL2 := Lib.hid hlt2
      clear hst hlt1 hlt2
      rcases Nat.lt_trichotomy x y with hxy | hxy | hxy
      · have HE := Lib.hid (HL1.out hxy)
        clear HL1 HL2 HST
        have hd : decide ((x : Int) < (y : Int)) = true := decide_eq_true (by omega)
        go_wp2
        go_quiet (fail)
        go_wp2
        go_ret
        exact ⟨ret_int HE.out.symm, _, by rw [World.drewN_drewN]⟩
      · have HE := Lib.hid (HST.out hxy)
        clear HL1 HL2 HST
        subst hxy
        have hd : decide ((x : Int) < (x : Int)) = false := by simp
        go_wp2
        go_quiet (fail)
        go_wp2
        go_quiet (fail)
        go_wp2
        go_roundw
        case rel => exact ⟨k + 1, _, by omega, by go_num, HE.out, rfl⟩
        case measure => simp [intOf]; omega
      · have HE := Lib.hid (HL2.out hxy)
        clear HL1 HL2 HST
        have hd : decide ((x : Int) < (y : Int)) = false := decide_eq_false (by omega)
        have hd2 : decide ((y : Int) < (x : Int)) = true := decide_eq_true (by omega)
        go_wp2
        go_quiet (fail)
        go_wp2
        go_quiet (fail)
        go_wp2
        go_ret
        exact ⟨ret_int HE.out.symm, _, by rw [World.drewN_drewN, World.drewN_drewN]⟩
    · obtain ⟨e1, e2, e3⟩ := orderV_end (k := k) he (by rw [HXL.out]; exact hkn) (by rw [HYL.out]; exact hkm) (by rw [HXL.out, HYL.out]; omega)
      rw [HXL.out, HYL.out] at e1 e2 e3
      have E1 := Lib.hid e1
      have E2 := Lib.hid e2
      have E3 := Lib.hid e3
      clear e1 e2 e3 he h h'
      rcases Nat.lt_trichotomy n m with hnm | hnm | hnm
      · obtain rfl : k = n := by omega
        have HE := Lib.hid (E1.out hnm)
        clear E1 E2 E3
        go_wp2
        go_ret
        exact ⟨ret_int HE.out.symm, t, rfl⟩
      · have HE := Lib.hid (E3.out hnm)
        clear E1 E2 E3
        obtain rfl : k = n := by omega
        subst hnm
        go_wp2
        go_ret
        exact ⟨ret_int HE.out.symm, t, rfl⟩
      · obtain rfl : k = m := by omega
        have HE := Lib.hid (E2.out hnm)
        clear E1 E2 E3
        go_wp2
        go_ret
        exact ⟨ret_int HE.out.symm, t, rfl⟩
end Go.Proofs.Ytpjgpiiibgogeaa
