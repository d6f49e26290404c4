/- Contracts of the document's perm: DocTake, DocGive as a whole; Give where it errs; kept. -/
import Derived.Test.YthigbhhhhebjeaaPermH
import Derived.Deep.RegionHeld3
namespace Go.Proofs.Ythigbhhhhebjeaa
open Go.RowKit
set_option maxRecDepth 100000

def giveE (p : Int) (xs : List Int) (t : Int) : Int := if semB p xs = false then 3 else if hasV xs t = false then 11 else 0
theorem giveE_zero {p : Int} {xs : List Int} {t : Int} : giveE p xs t = 0 ↔ semB p xs = true ∧ hasV xs t = true := by
  unfold giveE
  rcases semB p xs with _ | _ <;> rcases hasV xs t with _ | _ <;> simp

section
variable {w : World} {B n c : Nat} {A : Option Addr} {xs : List Int} {p t : Int}
theorem dcheck_at (h : ArgI w B A n c xs) (hB : B ≤ w.heap.size) : ∀ w', Below w.heap.size w w' → Calls Try.prog 44 #[.agg #[.int .i64 p, .slice A n c]] w' (ValEnd w' (.int .i64 (semV p xs))) :=
  fun w' hb => refCheck_any w' w.heap.size A n c xs p ((h.more hB).below hb) hb.size
theorem dhas_at (h : ArgI w B A n c xs) (hB : B ≤ w.heap.size) : ∀ w', Below w.heap.size w w' → Calls Try.prog 46 #[.slice A n c, .int .i64 t] w' fun e w1 => e = .returned (.bool (hasV xs t)) ∧ w' = w1 :=
  fun w' hb => refHas_any w' w.heap.size A n c xs t ((h.more hB).below hb)

theorem docTake_good (h : ArgI w B A n c xs) (hB : B ≤ w.heap.size) (ht : takeE p xs t = 0) :
    Calls Try.prog 34 #[.agg #[.int .i64 p, .slice A n c], .int .i64 t] w fun e w' => ∃ A' c', e = .returned (.tuple #[.agg #[.int .i64 p, .slice A' (n + 1) c'], .int .i64 0]) ∧ OwnI w' w.heap.size A' (n + 1) c' (putV xs t) ∧ Below w.heap.size w w' := by
  obtain ⟨h1, h2, h3, h4, h5⟩ := takeE_zero.1 ht
  have hf := semB_iff.1 h3
  have hl := h.len
  have hle := h.le
  have hcap := h.cap
  unfold maxLen at hcap
  have HC := dcheck_at (p := p) h hB
  rw [semV_ok h3] at HC
  have HX := dhas_at (t := t) h hB
  rw [h4] at HX
  exact doct_good w A n c xs p t h1 h2 (Lib.hid HC) (Lib.hid HX) (Lib.hid fun w' hb => refPut_any w' w.heap.size A n c xs t ((h.more hB).below hb) hb.size (by omega)) (by rw [← hl]; exact h5) hle hcap
theorem docTake_bad (h : ArgI w B A n c xs) (hB : B ≤ w.heap.size) (ht : takeE p xs t ≠ 0) :
    Calls Try.prog 34 #[.agg #[.int .i64 p, .slice A n c], .int .i64 t] w (ValEnd w (.tuple #[.agg #[.int .i64 0, .slice none 0 0], .int .i64 (takeE p xs t)])) := by
  have HC := dcheck_at (p := p) h hB
  have HX := dhas_at (t := t) h hB
  have hl := h.len
  have hle := h.le
  have hcap := h.cap
  unfold maxLen at hcap
  unfold takeE at ht ⊢
  by_cases h1 : t < 1 ∨ 4611686018427387903 < t
  · rw [if_pos h1]
    exact doct_arg w A n c p t h1
  · rw [if_neg h1] at ht ⊢
    rcases h3 : semB p xs with _ | _
    · rw [if_pos rfl]
      rw [semV_no h3] at HC
      exact doct_form w A n c xs p t (by omega) (by omega) (Lib.hid HC)
    · rw [h3, if_neg (by simp)] at ht
      rw [if_neg (by simp)]
      rw [semV_ok h3] at HC
      rcases h4 : hasV xs t with _ | _
      · rw [h4, if_neg (by simp)] at ht
        rw [if_neg (by simp)]
        rw [h4] at HX
        by_cases h5 : (xs.length : Int) = p
        · rw [if_pos h5]
          exact doct_busy w A n c xs p t (by omega) (by omega) (Lib.hid HC) (Lib.hid HX) (by rw [← hl]; exact h5) hle hcap
        · rw [if_neg h5] at ht
          exact absurd rfl ht
      · rw [if_pos rfl]
        rw [h4] at HX
        exact doct_has w A n c xs p t (by omega) (by omega) (Lib.hid HC) (Lib.hid HX)
theorem docGive_good (h : ArgI w B A n c xs) (hB : B ≤ w.heap.size) (ht : giveE p xs t = 0) :
    Calls Try.prog 41 #[.agg #[.int .i64 p, .slice A n c], .int .i64 t] w fun e w' => ∃ A' c', e = .returned (.tuple #[.agg #[.int .i64 p, .slice A' (dropV xs t).length c'], .int .i64 0]) ∧ OwnI w' w.heap.size A' (dropV xs t).length c' (dropV xs t) ∧ Below w.heap.size w w' := by
  obtain ⟨h3, h4⟩ := giveE_zero.1 ht
  have hf := semB_iff.1 h3
  have hl := h.len
  have HC := dcheck_at (p := p) h hB
  rw [semV_ok h3] at HC
  have HX := dhas_at (t := t) h hB
  rw [h4] at HX
  exact docg_good w A n c xs p t (Lib.hid HC) (Lib.hid HX) _ (Lib.hid fun w' hb => refDrop_any w' w.heap.size A n c xs t ((h.more hB).below hb) hb.size (by omega))
theorem docGive_bad (h : ArgI w B A n c xs) (hB : B ≤ w.heap.size) (ht : giveE p xs t ≠ 0) :
    Calls Try.prog 41 #[.agg #[.int .i64 p, .slice A n c], .int .i64 t] w (ValEnd w (.tuple #[.agg #[.int .i64 0, .slice none 0 0], .int .i64 (giveE p xs t)])) := by
  have HC := dcheck_at (p := p) h hB
  have HX := dhas_at (t := t) h hB
  unfold giveE at ht ⊢
  rcases h3 : semB p xs with _ | _
  · rw [if_pos rfl]
    rw [semV_no h3] at HC
    exact docg_form w A n c xs p t (Lib.hid HC)
  · rw [h3, if_neg (by simp)] at ht
    rw [if_neg (by simp)]
    rw [semV_ok h3] at HC
    rcases h4 : hasV xs t with _ | _
    · rw [if_pos rfl]
      rw [h4] at HX
      exact docg_tok w A n c xs p t (Lib.hid HC) (Lib.hid HX)
    · rw [h4, if_neg (by simp)] at ht
      exact absurd rfl ht
theorem permGive_bad (h : ArgI w B A n c xs) (hB : B ≤ w.heap.size) (ht : giveE p xs t ≠ 0) :
    Calls Try.prog 40 #[.agg #[.int .i64 p, .slice A n c], .int .i64 t] w (ValEnd w (.tuple #[.agg #[.int .i64 0, .slice none 0 0], .int .i64 (giveE p xs t)])) := by
  have HC := check_at (p := p) h hB
  have hl := h.len
  unfold giveE at ht ⊢
  rcases h3 : semB p xs with _ | _
  · rw [if_pos rfl]
    rw [semV_no h3] at HC
    exact give_form w A n c p t (Lib.hid HC)
  · rw [h3, if_neg (by simp)] at ht
    rw [if_neg (by simp)]
    rw [semV_ok h3] at HC
    have hf := semB_iff.1 h3
    rcases h4 : hasV xs t with _ | _
    · rw [if_pos rfl]
      have HX := search_at (t := t) h hB hf.2.2.2 (by omega)
      rw [h4] at HX
      exact give_tok w A n c p t _ (Lib.hid HC) (Lib.hid HX)
    · rw [h4, if_neg (by simp)] at ht
      exact absurd rfl ht
end
end Go.Proofs.Ythigbhhhhebjeaa
