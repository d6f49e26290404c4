/- Contracts of package perm: Take and Give as a whole. -/
import Derived.Test.YtnkecjjfbllgdaaPermO
import Derived.Test.YtnkecjjfbllgdaaPermM2
namespace Go.Proofs.Ytnkecjjfbllgdaa
open Go.RowKit
set_option maxRecDepth 100000

/-- A slice whose address bears no spot. -/
def Shp (A : Option Addr) (c : Nat) : Prop := (A = none ∧ c = 0) ∨ ∃ b off, A = some ⟨b, off, none⟩
theorem OwnI.shp {w : World} {B n c : Nat} {A : Option Addr} {xs : List Int} (h : OwnI w B A n c xs) : Shp A c := by
  rcases h with ⟨h0, ⟨h, _⟩ | ⟨g, cap, cur, h1, _⟩⟩
  · simp only [Value.slice.injEq] at h
    exact .inl ⟨h.1, h.2.2⟩
  · simp only [Value.slice.injEq] at h1
    exact .inr ⟨g, 0, h1.1⟩

section
variable {w : World} {B n c : Nat} {A : Option Addr} {xs : List Int} {p t : Int}
theorem check_at (h : ArgI w B A n c xs) (hB : B ≤ w.heap.size) : ∀ w', Below w.heap.size w w' → Calls Try.prog 45 #[.agg #[.int .i64 p, .slice A n c]] w' (ValEnd w' (.int .i64 (semV p xs))) :=
  fun w' hb => permCheck_any w' w.heap.size A n c xs p ((h.more hB).below hb) hb.size
theorem search_at (h : ArgI w B A n c xs) (hB : B ≤ w.heap.size) (ho : okList 0 xs = true) (hn : n ≤ 1000000) : ∀ w', Below w.heap.size w w' → Calls Try.prog 74 #[.slice A n c, .int .i64 t] w' fun e w1 => e = .returned (.tuple #[.int .i64 ((placeV xs t : Nat) : Int), .bool (hasV xs t)]) ∧ w' = w1 :=
  fun w' hb => search_any w' w.heap.size A n c xs t 0 ((h.more hB).below hb) ho hn
theorem semV_ok (h : semB p xs = true) : semV p xs = 0 := by unfold semV; rw [if_pos h]
theorem semV_no (h : semB p xs = false) : semV p xs = 3 := by unfold semV; rw [if_neg (by rw [h]; simp)]

theorem take_good (h : ArgI w B A n c xs) (hB : B ≤ w.heap.size) (hs : Shp A c) (ht : takeE p xs t = 0) :
    Calls Try.prog 64 #[.agg #[.int .i64 p, .slice A n c], .int .i64 t] w fun e w' => ∃ A' c', e = .returned (.tuple #[.agg #[.int .i64 p, .slice A' (n + 1) c'], .int .i64 0]) ∧ OwnI w' w.heap.size A' (n + 1) c' (putV xs t) ∧ Below w.heap.size w w' := by
  obtain ⟨h1, h2, h3, h4, h5⟩ := takeE_zero.1 ht
  have hf := semB_iff.1 h3
  have hl := h.len
  have hle := h.le
  have hpl := placeV_le xs t
  have HS := fun w => isSerial_any w t
  rw [decide_eq_true h1, decide_eq_true h2, Bool.true_and] at HS
  have HC := check_at (p := p) h hB
  rw [semV_ok h3] at HC
  have HX := search_at (t := t) h hB hf.2.2.2 (by omega)
  rw [h4] at HX
  rw [putV_place hf.2.2.2 h4]
  generalize placeV xs t = k at *
  by_cases hck : c = k
  · obtain rfl : n = k := by omega
    obtain rfl : c = n := by omega
    exact take_E w A p t c xs (h.more hB) (by omega) (by rw [← hl]; exact h5) (Lib.hid HS) (Lib.hid HC) (Lib.hid HX)
  · rcases hs with ⟨rfl, rfl⟩ | ⟨b, off, rfl⟩
    · omega
    · exact take_N w b off n c p t k xs (h.more hB) (by omega) (by rw [← hl]; exact h5) (by omega) (by omega) (Lib.hid HS) (Lib.hid HC) (Lib.hid HX)

theorem take_bad (h : ArgI w B A n c xs) (hB : B ≤ w.heap.size) (ht : takeE p xs t ≠ 0) :
    Calls Try.prog 64 #[.agg #[.int .i64 p, .slice A n c], .int .i64 t] w (ValEnd w (.tuple #[.agg #[.int .i64 0, .slice none 0 0], .int .i64 (takeE p xs t)])) := by
  have HS := fun w => isSerial_any w t
  have HC := check_at (p := p) h hB
  have hl := h.len
  unfold takeE at ht ⊢
  by_cases h1 : t < 1 ∨ 4611686018427387903 < t
  · rw [if_pos h1]
    have : (decide (1 ≤ t) && decide (t ≤ 4611686018427387903)) = false := by
      rcases h1 with h1 | h1
      · rw [decide_eq_false (show ¬ 1 ≤ t by omega), Bool.false_and]
      · rw [decide_eq_false (show ¬ t ≤ 4611686018427387903 by omega), Bool.and_false]
    rw [this] at HS
    exact take_arg w A n c p t (Lib.hid HS)
  · rw [if_neg h1] at ht ⊢
    rw [decide_eq_true (show 1 ≤ t by omega), decide_eq_true (show t ≤ 4611686018427387903 by omega), Bool.true_and] at HS
    rcases h3 : semB p xs with _ | _
    · rw [if_pos rfl]
      rw [semV_no h3] at HC
      exact take_form w A n c p t (Lib.hid HS) (Lib.hid HC)
    · rw [h3, if_neg (by simp)] at ht
      rw [if_neg (by simp)]
      rw [semV_ok h3] at HC
      have hf := semB_iff.1 h3
      have HX := search_at (t := t) h hB hf.2.2.2 (by omega)
      rcases h4 : hasV xs t with _ | _
      · rw [h4, if_neg (by simp)] at ht
        rw [if_neg (by simp)]
        rw [h4] at HX
        by_cases h5 : (xs.length : Int) = p
        · rw [if_pos h5]
          exact take_busy w A n c p t _ (Lib.hid HS) (Lib.hid HC) (Lib.hid HX) (by rw [← hl]; exact h5.symm)
        · rw [if_neg h5] at ht
          exact absurd rfl ht
      · rw [if_pos rfl]
        rw [h4] at HX
        exact take_has w A n c p t _ (Lib.hid HS) (Lib.hid HC) (Lib.hid HX)

theorem give_good (h : ArgI w B A n c xs) (hB : B ≤ w.heap.size) (hs : Shp A c) (h3 : semB p xs = true) (h4 : hasV xs t = true) :
    Calls Try.prog 67 #[.agg #[.int .i64 p, .slice A n c], .int .i64 t] w fun e w' => ∃ A' c', e = .returned (.tuple #[.agg #[.int .i64 p, .slice A' (n - 1) c'], .int .i64 0]) ∧ OwnI w' w.heap.size A' (n - 1) c' (dropV xs t) ∧ Below w.heap.size w w' := by
  have hf := semB_iff.1 h3
  have hl := h.len
  have hle := h.le
  have hpl : placeV xs t < xs.length := by
    have := hasV_place (n := t) hf.2.2.2
    rw [h4] at this
    exact of_decide_eq_true (Bool.and_eq_true_iff.1 this.symm).1
  have HC := check_at (p := p) h hB
  rw [semV_ok h3] at HC
  have HX := search_at (t := t) h hB hf.2.2.2 (by omega)
  rw [h4] at HX
  rw [dropV_place hf.2.2.2 h4]
  generalize placeV xs t = k at *
  by_cases hck : c = k + 1
  · obtain rfl : n = k + 1 := by omega
    obtain rfl : c = k + 1 := by omega
    rw [Nat.add_sub_cancel]
    exact give_E w A p t k xs (h.more hB) (by omega) (Lib.hid HC) (Lib.hid HX)
  · rcases hs with ⟨rfl, rfl⟩ | ⟨b, off, rfl⟩
    · omega
    · exact give_N w b off n c p t k xs (h.more hB) (by omega) (by omega) (by omega) (Lib.hid HC) (Lib.hid HX)
end
end Go.Proofs.Ytnkecjjfbllgdaa
