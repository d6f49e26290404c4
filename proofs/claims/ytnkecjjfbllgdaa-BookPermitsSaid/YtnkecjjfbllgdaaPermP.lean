/- Contracts of package perm's helpers and of the library's search by halving. -/
import Derived.Test.YtnkecjjfbllgdaaInts
import Derived.Test.YtnkecjjfbllgdaaPermM
import Derived.Test.YtnkecjjfbllgdaaBlk
import Derived.Test.YtnkecjjfbllgdaaComp
import Derived.IntWalk
namespace Go.Proofs.Ytnkecjjfbllgdaa
open Go.RowKit
set_option maxRecDepth 100000

set_option maxHeartbeats 400000 in
theorem sNaN_any (w : World) (a : Int) : Calls Try.prog 92 #[.int .i64 a] w fun e w' => e = .returned (.bool false) ∧ w = w' := by
  have h : (a != a) = false := by simp
  go_enter Try.func92, Try.ntmps92
  go_wp2
  go_ret
  exact ⟨ret_bool (by simp), rfl⟩
set_option maxHeartbeats 400000 in
theorem cNaN_any (w : World) (a : Int) : Calls Try.prog 104 #[.int .i64 a] w fun e w' => e = .returned (.bool false) ∧ w = w' := by
  have h : (a != a) = false := by simp
  go_enter Try.func104, Try.ntmps104
  go_wp2
  go_ret
  exact ⟨ret_bool (by simp), rfl⟩
set_option maxHeartbeats 400000 in
theorem less_any (w : World) (a b : Int) : Calls Try.prog 91 #[.int .i64 a, .int .i64 b] w fun e w' => e = .returned (.bool (decide (a < b))) ∧ w = w' := by
  have H := Lib.hid (fun w => cNaN_any w a)
  go_enter Try.func91, Try.ntmps91
  go_wp2_with fail
  with_reducible refine (H.out _).mono ?_
  rintro e w1 ⟨rfl, rfl⟩
  go_wp2
  go_ret
  exact ⟨ret_bool (by simp), rfl⟩

theorem placeV_eq {xs : List Int} {n : Int} {k : Nat} (hk : k ≤ xs.length) (h1 : ∀ i, i < k → xs.getD i 0 < n) (h2 : ∀ i, k ≤ i → i < xs.length → n ≤ xs.getD i 0) : placeV xs n = k := by
  have hl := placeV_le xs n
  rcases Nat.lt_trichotomy (placeV xs n) k with h | h | h
  · have := placeV_at (xs := xs) (n := n) (by omega)
    have := h1 _ h
    omega
  · exact h
  · have := placeV_lt h
    have := h2 k (Nat.le_refl _) (by omega)
    omega

def BsInv (xs : List Int) (t : Int) (n : Nat) (lo hi : Value) : Prop :=
  ∃ a b : Nat, lo = .int .i64 (a : Int) ∧ hi = .int .i64 (b : Int) ∧ a ≤ b ∧ b ≤ n ∧ (∀ i, i < a → xs.getD i 0 < t) ∧ (∀ i, b ≤ i → i < n → t ≤ xs.getD i 0)

set_option maxHeartbeats 1600000 in
theorem search_any (w : World) (B : Nat) (A : Option Addr) (n c : Nat) (xs : List Int) (t last : Int) (h : ArgI w B A n c xs) (ho : okList last xs = true) (hn : n ≤ 1000000) :
    Calls Try.prog 74 #[.slice A n c, .int .i64 t] w fun e w' => e = .returned (.tuple #[.int .i64 ((placeV xs t : Nat) : Int), .bool (hasV xs t)]) ∧ w = w' := by
  have hl := h.len
  have hle := h.le
  have hcap := h.cap
  unfold maxLen at hcap
  have HS := Lib.hid (okList_sorted ho)
  have HH := Lib.hid (hasV_place (n := t) ho)
  have HN := Lib.hid (fun w a => sNaN_any w a)
  have HX := Lib.hid (fun w a => less_any w a t)
  clear ho
  go_enter Try.func74, Try.ntmps74
  go_wp2
  go_loop [7, 8] (fun lo hi => BsInv xs t n lo hi) (fun lo hi => (intOf hi - intOf lo).toNat)
  case atStart => exact ⟨0, n, rfl, rfl, Nat.zero_le _, Nat.le_refl _, fun i hi => absurd hi (by omega), fun i hi hi2 => absurd hi (by omega)⟩
  case round =>
    obtain ⟨a, b, rfl, rfl, hab, hbn, h1, h2⟩ := hrel
    rcases Nat.lt_or_ge a b with hlt | hge
    · obtain ⟨m, hm⟩ : ∃ m, (a + b) / 2 = m := ⟨_, rfl⟩
      have q : decide ((a : Int) < (b : Int)) = true := decide_eq_true (by omega)
      obtain ⟨g, off, rfl, _, hc⟩ := h.at_ (by omega)
      have hcm := hc m (by omega)
      have hmn : m < n := by omega
      have em : ((a : Int) + (b : Int)) / 2 = (m : Int) := by omega
      have HF := Lib.hid (show a ≤ m ∧ m < b ∧ b ≤ n ∧ n ≤ 1000000 by omega)
      have HXm := Lib.hid (fun w => HX.out w (xs.getD m 0))
      have HC := Lib.hid (show (∀ i, i < a → xs.getD i 0 < t) ∧ (∀ i, b ≤ i → i < n → t ≤ xs.getD i 0) from ⟨h1, h2⟩)
      by_cases hd : xs.getD m 0 < t
      · have HR : Hid (∀ i, i < m + 1 → xs.getD i 0 < t) := Lib.hid (fun i hi => by
          rcases Nat.lt_or_ge i m with h' | h'
          · have := HS.out i m h' (by omega); omega
          · obtain rfl : i = m := by omega
            exact hd)
        rw [decide_eq_true hd] at HXm
        clear h1 h2 hc h hd
        generalize xs.getD m 0 = d at hcm HXm
        go_wp2_with fail
        with_reducible refine (HXm.out _).mono ?_
        rintro e w1 ⟨rfl, rfl⟩
        go_wp2
        go_round
        case rel => exact ⟨m + 1, b, by go_num, rfl, by have := HF.out; omega, by have := HF.out; omega, HR.out, HC.out.2⟩
        case measure => have := HF.out; simp [intOf]; omega
      · have HR : Hid (∀ i, m ≤ i → i < n → t ≤ xs.getD i 0) := Lib.hid (fun i hi hi2 => by
          rcases Nat.lt_or_ge m i with h' | h'
          · have := HS.out m i h' (by omega); omega
          · obtain rfl : i = m := by omega
            omega)
        rw [decide_eq_false hd] at HXm
        clear h1 h2 hc h hd
        generalize xs.getD m 0 = d at hcm HXm
        go_wp2_with fail
        with_reducible refine (HXm.out _).mono ?_
        rintro e w1 ⟨rfl, rfl⟩
        go_wp2
        go_round
        case rel => exact ⟨a, m, rfl, rfl, by have := HF.out; omega, by have := HF.out; omega, HC.out.1, HR.out⟩
        case measure => have := HF.out; simp [intOf]; omega
    · obtain rfl : a = b := by omega
      have hp := placeV_eq (by omega) h1 (fun i hi hi2 => h2 i hi (by omega))
      have q : decide ((a : Int) < (a : Int)) = false := decide_eq_false (by omega)
      have hh := HH.out
      rw [hp] at hh
      have HP := Lib.hid hp
      rcases Nat.lt_or_ge a n with hlt | hge
      · rw [decide_eq_true (by omega), Bool.true_and] at hh
        obtain ⟨g, off, rfl, _, hc⟩ := h.at_ (by omega)
        have hcm := hc a hlt
        generalize xs.getD a 0 = d at *
        have HB := Lib.hid hh
        have q2 : decide ((a : Int) < (n : Int)) = true := decide_eq_true (by omega)
        rcases hd : d == t with _ | _
        · rw [hd] at HB
          have hd2 : (d == t) = false := hd
          have HNd := Lib.hid (fun w => HN.out w d)
          clear h1 h2 hc h hp hh
          go_wp2_with fail
          with_reducible refine (HNd.out _).mono ?_
          rintro e w1 ⟨rfl, rfl⟩
          go_wp2
          go_ret2
          exact ⟨by rw [HP.out, HB.out]; rfl, rfl⟩
        · rw [hd] at HB
          clear h1 h2 hc h hp hh
          go_wp2
          go_ret2
          exact ⟨by rw [HP.out, HB.out]; rfl, rfl⟩
      · rw [decide_eq_false (by omega), Bool.false_and] at hh
        have HB := Lib.hid hh
        have q2 : decide ((a : Int) < (n : Int)) = false := decide_eq_false (by omega)
        clear h1 h2 h hp hh
        go_wp2
        go_ret2
        exact ⟨by rw [HP.out, HB.out]; rfl, rfl⟩

set_option maxHeartbeats 400000 in
theorem isCount_any (w : World) (p : Int) : Calls Try.prog 60 #[.int .i64 p] w fun e w' => e = .returned (.bool (decide (1 ≤ p) && decide (p ≤ 64))) ∧ w = w' := by
  rcases hp : decide (1 ≤ p) with _ | _
  all_goals
    go_enter Try.func60, Try.ntmps60
    go_wp2
    go_ret
    exact ⟨ret_bool (by simp), rfl⟩
set_option maxHeartbeats 400000 in
theorem isSerial_any (w : World) (p : Int) : Calls Try.prog 61 #[.int .i64 p] w fun e w' => e = .returned (.bool (decide (1 ≤ p) && decide (p ≤ 4611686018427387903))) ∧ w = w' := by
  rcases hp : decide (1 ≤ p) with _ | _
  all_goals
    go_enter Try.func61, Try.ntmps61
    go_wp2
    go_ret
    exact ⟨ret_bool (by simp), rfl⟩
end Go.Proofs.Ytnkecjjfbllgdaa
