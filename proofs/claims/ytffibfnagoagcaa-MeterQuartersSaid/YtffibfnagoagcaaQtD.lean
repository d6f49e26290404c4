/- Contract: the program's Quantile, of any list and share. -/
import Derived.Test.YtffibfnagoagcaaQtC
namespace Go.Proofs.Ytffibfnagoagcaa
open Go.RowKit Go.Shelf Go.Sort
set_option maxRecDepth 100000
set_option linter.unusedVariables false

def gt1B (q : Nat) : Bool := !le0B q && decide (4607182418800017408 < q)
def quaP (xs : List Nat) (q : Nat) : Nat := (floatBits .mul .f64 q (floatOfInt FloatKind.f64 ((xs.length - 1 : Nat) : Int))).getD 0
/-- What Quantile answers: the number, one NaN for all; the error. -/
def quaE (xs : List Nat) (q : Nat) : Nat × Int :=
  if 4096 < xs.length then (0, 2) else if (nanB q || xs.any nanB) = true then (0, 4) else if (lt0B q || gt1B q) = true then (0, 5) else if xs.length = 0 then (0, 7) else (betV (srtV xs) xs.length (quaP xs q), 0)
theorem quaE_long {xs : List Nat} {q : Nat} (h : 4096 < xs.length) : quaE xs q = (0, 2) := by unfold quaE; rw [if_pos h]
theorem quaE_nan {xs : List Nat} {q : Nat} (h : ¬ 4096 < xs.length) (h1 : (nanB q || xs.any nanB) = true) : quaE xs q = (0, 4) := by unfold quaE; rw [if_neg h, if_pos h1]
theorem quaE_range {xs : List Nat} {q : Nat} (h : ¬ 4096 < xs.length) (h1 : (nanB q || xs.any nanB) = false) (h2 : (lt0B q || gt1B q) = true) : quaE xs q = (0, 5) := by unfold quaE; rw [if_neg h, h1, if_neg (by decide), if_pos h2]
theorem quaE_none {xs : List Nat} {q : Nat} (h : ¬ 4096 < xs.length) (h1 : (nanB q || xs.any nanB) = false) (h2 : (lt0B q || gt1B q) = false) (h3 : xs.length = 0) : quaE xs q = (0, 7) := by unfold quaE; rw [if_neg h, h1, if_neg (by decide), h2, if_neg (by decide), if_pos h3]
theorem quaE_ok {xs : List Nat} {q : Nat} (h : ¬ 4096 < xs.length) (h1 : (nanB q || xs.any nanB) = false) (h2 : (lt0B q || gt1B q) = false) (h3 : xs.length ≠ 0) : quaE xs q = (betV (srtV xs) xs.length (quaP xs q), 0) := by unfold quaE; rw [if_neg h, h1, if_neg (by decide), h2, if_neg (by decide), if_neg h3]
/-- A share. -/
theorem share_fin {q : Nat} (hq : q ≤ 18446744073709551615) (nq : nanB q = false) (h2 : (lt0B q || gt1B q) = false) : szB q < 9218868437227405312 ∧ (negB q = true → szB q = 0) ∧ WS (szB q) ≤ 2 ^ cE := by
  rw [Bool.or_eq_false_iff] at h2
  obtain ⟨h2, h3⟩ := h2
  have hle := of_decide_eq_false nq
  unfold lt0B at h2
  unfold gt1B le0B at h3
  by_cases h0 : szB q = 0
  · refine ⟨by omega, fun _ => h0, ?_⟩
    rw [h0, WS_zero]; exact Nat.zero_le _
  · rw [decide_eq_false h0] at h2 h3
    have hn : negB q = false := by simpa using h2
    rw [hn] at h3
    have h4 : ¬ 4607182418800017408 < q := by simpa using h3
    have hz : szB q = q := Nat.mod_eq_of_lt (by have := of_decide_eq_false hn; omega)
    refine ⟨by omega, (fun h => by rw [hn] at h; cases h), ?_⟩
    rw [← one_S]
    exact WS_le.2 (by omega)
theorem int_S {n : Nat} (h : n < 9007199254740992) : WS (szB (floatOfInt FloatKind.f64 (n : Int))) = n * 2 ^ cE := by
  have hw := (wh_int (z := (n : Int)) (by omega)).val
  unfold VB at hw
  have h1 := congrArg Int.natAbs hw
  rw [Int.natAbs_mul, Int.natAbs_natCast, Int.natAbs_natCast] at h1
  rw [← h1]
  split <;> simp
theorem qua_pl {xs : List Nat} {q : Nat} (hq : q ≤ 18446744073709551615) (nq : nanB q = false) (h2 : (lt0B q || gt1B q) = false) (h0 : xs.length ≠ 0) (hl : xs.length ≤ 4096) :
    ∃ P, floatBits .mul .f64 q (floatOfInt FloatKind.f64 ((xs.length - 1 : Nat) : Int)) = some P ∧ PlP P xs.length ∧ quaP xs q = P := by
  obtain ⟨f1, f2, f3⟩ := share_fin hq nq h2
  have hw := wh_int (z := ((xs.length - 1 : Nat) : Int)) (by omega)
  have hS := int_S (n := xs.length - 1) (by omega)
  obtain ⟨P, e, p1, p2, p3⟩ := mul_op hq hw.le f1 hw.fin
  refine ⟨P, e, ⟨p1, ?_, fun hn => ?_, ?_⟩, by unfold quaP; rw [e]; rfl⟩
  · refine Nat.lt_of_le_of_lt (p3.le_S (Nat.mul_pos cE_pos cE_pos) ?_) hw.fin
    rw [Nat.mul_comm (2 ^ cE) (2 ^ cE), Nat.mul_comm (WS (szB q)), Nat.mul_assoc]
    exact Nat.mul_le_mul_left _ (Nat.mul_le_mul_right _ f3)
  · have hz : WS (szB q) * WS (szB (floatOfInt FloatKind.f64 ((xs.length - 1 : Nat) : Int))) = 0 := by
      rw [p2] at hn
      rcases hg : negB q with _ | _
      · rw [hg] at hn
        have hv := hw.val
        unfold VB at hv
        have hn' : negB (floatOfInt FloatKind.f64 ((xs.length - 1 : Nat) : Int)) = true := by simpa using hn
        rw [hn', if_pos rfl, hS] at hv
        have h5 : (0 : Int) ≤ ((xs.length - 1 : Nat) : Int) * ((2 ^ cE : Nat) : Int) := Int.mul_nonneg (by omega) (by omega)
        have h6 : (((xs.length - 1) * 2 ^ cE : Nat) : Int) = ((xs.length - 1 : Nat) : Int) * ((2 ^ cE : Nat) : Int) := by push_cast; rfl
        have h7 : (xs.length - 1) * 2 ^ cE = 0 := by omega
        rw [hS, h7, Nat.mul_zero]
      · rw [f2 hg, WS_zero, Nat.zero_mul]
    have := p3.le_S (t := 0) (Nat.mul_pos cE_pos cE_pos) (by rw [hz]; simp)
    omega
  · unfold fiB
    have h3 : szB P ≤ szB (floatOfInt FloatKind.f64 ((xs.length - 1 : Nat) : Int)) := by
      refine p3.le_S (Nat.mul_pos cE_pos cE_pos) ?_
      rw [Nat.mul_comm (2 ^ cE) (2 ^ cE), Nat.mul_comm (WS (szB q)), Nat.mul_assoc]
      exact Nat.mul_le_mul_left _ (Nat.mul_le_mul_right _ f3)
    have h4 := WS_le.2 h3
    rw [hS] at h4
    have h5 := Nat.div_le_div_right (c := 2 ^ cE) h4
    rw [Nat.mul_div_cancel _ cE_pos] at h5
    omega
theorem can0 : canB 0 = 0 := by decide
set_option maxHeartbeats 3200000 in
theorem quantP_any (w : World) (A : Option Addr) (n c : Nat) (xs : List Nat) (q : Nat) (h : ArgF w w.heap.size A n c xs) (hq : q ≤ 18446744073709551615) :
    Calls Try.prog 29 #[.slice A n c, .float .f64 q] w (FE w (quaE xs q).1 (quaE xs q).2) := by
  have hlen := h.len
  have hcap := h.cap
  have hle := h.le
  unfold maxLen at hcap
  by_cases h1 : 4096 < n
  · have d1 : decide ((4096 : Int) < (n : Int)) = true := by simp; omega
    rw [quaE_long (by rw [hlen]; exact h1)]
    go_enter Try.func29, Try.ntmps29
    go_wp2
    go_ret2
    exact ⟨0, rfl, by omega, can0, Below.refl _ _⟩
  · have d1 : decide ((4096 : Int) < (n : Int)) = false := by simp; omega
    have NQ := Lib.hid (isNaN_any w q hq)
    have HC := Lib.hid (containsNaN_any w A n c xs h)
    unfold isNaNF at HC
    have H1 := Lib.hid (show ¬ 4096 < xs.length by rw [hlen]; exact h1)
    cases nq : nanB q with
    | true =>
      rw [nq] at NQ
      rw [quaE_nan H1.out (by rw [nq]; rfl)]
      clear HC h hlen
      go_enter Try.func29, Try.ntmps29
      go_wp2_with fail
      with_reducible refine NQ.out.mono ?_
      rintro e w1 ⟨rfl, rfl⟩
      go_wp2
      go_ret2
      exact ⟨0, rfl, by omega, can0, Below.refl _ _⟩
    | false =>
      rw [nq] at NQ
      cases na : xs.any nanB with
      | true =>
        rw [na] at HC
        rw [quaE_nan H1.out (by rw [nq, na]; rfl)]
        clear h hlen
        go_enter Try.func29, Try.ntmps29
        go_wp2_with fail
        with_reducible refine NQ.out.mono ?_
        rintro e w1 ⟨rfl, rfl⟩
        go_wp2_with fail
        with_reducible refine HC.out.mono ?_
        rintro e w1 ⟨rfl, rfl⟩
        go_wp2
        go_ret2
        exact ⟨0, rfl, by omega, can0, Below.refl _ _⟩
      | false =>
        rw [na] at HC
        have HNN := Lib.hid (show (nanB q || xs.any nanB) = false by rw [nq, na]; rfl)
        have HNX : Hid (∀ x ∈ xs, nanB x = false) := Lib.hid (fun x hx => by
          rcases hb : nanB x with _ | _
          · rfl
          · have := List.any_eq_true.2 ⟨x, hx, hb⟩
            rw [na] at this; cases this)
        have HQN := Lib.hid nq
        have HA := Lib.hid h
        have HL := Lib.hid hlen
        have HHQ := Lib.hid hq
        rcases ord_nought hq nq with ⟨a1, a2, a3⟩ | ⟨a1, a2, a3⟩ | ⟨a1, a2, a3⟩
        · have o1 : FloatKind.f64.format.order q 0 = some .eq := a3
          have o2 : FloatKind.f64.format.order q 4607182418800017408 = some .lt := by
            have hs : szB q = 0 := by
              unfold lt0B at a2
              unfold le0B at a1
              rcases hz : decide (szB q = 0) with _ | _
              · rw [hz] at a1 a2; simp at a1 a2; rw [a1] at a2; cases a2
              · exact of_decide_eq_true hz
            have := ordF_fin hq (show 4607182418800017408 ≤ 18446744073709551615 by omega) (show szB q < _ by omega) (show szB 4607182418800017408 < 9218868437227405312 by decide)
            have v1 : VB 4607182418800017408 = ((2 ^ cE : Nat) : Int) := by
              have h2 : VB 4607182418800017408 = (WS (szB 4607182418800017408) : Int) := VB_pos (by decide)
              rw [h2, show szB 4607182418800017408 = 4607182418800017408 by decide, one_S]
            have v0 : VB q = 0 := by unfold VB; rw [hs, WS_zero]; split <;> rfl
            rw [v0, v1, order_lt_iff.2 (by have := cE_pos; omega)] at this
            exact this
          have HG := Lib.hid (show (lt0B q || gt1B q) = false by rw [a2]; unfold gt1B; rw [a1]; rfl)
          clear a1 a2 a3 h hlen hq nq na
          rcases Nat.eq_zero_or_pos n with h0 | h0
          · have d2 : ((n : Int) == 0) = true := by rw [h0]; rfl
            rw [quaE_none H1.out HNN.out HG.out (by rw [HL.out]; exact h0)]
            clear h0
            go_enter Try.func29, Try.ntmps29
            go_wp2_with fail
            with_reducible refine NQ.out.mono ?_
            rintro e w1 ⟨rfl, rfl⟩
            go_wp2_with fail
            with_reducible refine HC.out.mono ?_
            rintro e w1 ⟨rfl, rfl⟩
            go_wp2
            go_ret2
            exact ⟨0, rfl, by omega, can0, Below.refl _ _⟩
          · have d2 : ((n : Int) == 0) = false := beq_eq_false_iff_ne.2 (by omega)
            rw [quaE_ok H1.out HNN.out HG.out (by rw [HL.out]; omega)]
            obtain ⟨P, hm, hpl, hqp⟩ := qua_pl (xs := xs) HHQ.out HQN.out HG.out (by rw [HL.out]; omega) (by rw [HL.out]; omega)
            rw [hqp]
            rw [HL.out] at hm hpl ⊢
            obtain ⟨l, hl⟩ : ∃ l, n - 1 = l := ⟨_, rfl⟩
            rw [hl] at hm
            have s1 : (n : Int) - 1 = (l : Int) := by omega
            obtain ⟨I, hI⟩ : ∃ I, floatOfInt FloatKind.f64 ((l : Nat) : Int) = I := ⟨_, rfl⟩
            rw [hI] at hm
            have F2 := fun w => run_float_arith (P := Try.prog) w .mul 27 .f64 q I P hm
            obtain ⟨b, off, rfl, hB, _⟩ := HA.out.at_ h0
            have HK := Lib.hid (clone_any w b off n c xs HA.out h0 (by omega))
            have HPL := Lib.hid hpl
            clear hm hpl hqp hB
            go_enter Try.func29, Try.ntmps29
            go_wp2_with fail
            with_reducible refine NQ.out.mono ?_
            rintro e w1 ⟨rfl, rfl⟩
            go_wp2_with fail
            with_reducible refine HC.out.mono ?_
            rintro e w1 ⟨rfl, rfl⟩
            go_wp2_with fail
            with_reducible refine HK.out.mono ?_
            rintro e w2 ⟨g, cap, rfl, hg, hc, hf, hcap1, hcap2, hgl, hb⟩
            have hfit := HA.out.fit
            have hsz : (arrF xs hfit).size = n := by rw [arrF_size]; exact HL.out
            have hget : ∀ j, j < n → (arrF xs hfit)[j]!.val = xs.getD j 0 := fun j hj => by
              have e := arrF_list xs hfit
              have e2 := congrArg (fun l => l.getD j 0) e
              simp only [List.getD_eq_getElem?_getD, List.getElem?_map] at e2
              rw [List.getElem?_eq_getElem (by simpa [hsz] using hj)] at e2
              rw [getElem!_pos _ j (by omega), List.getD_eq_getElem?_getD, ← e2]
              simp
            have HH : Holds encF w2 g 0 (arrF xs hfit) := fun j hj => by
              rw [hsz] at hj
              refine ⟨?_, by rw [Nat.zero_add]; exact hf j⟩
              rw [Nat.zero_add, hc j hj]
              unfold encF
              rw [hget j hj]
            have HS := sortF_any w2 g 0 cap (arrF xs hfit) HH hgl (by omega)
            have HSI := Lib.hid (fun d' hp hs => sorted_is hfit HNX.out (d' := d') hp hs)
            have HHO := Lib.hid HH
            have HHS := Lib.hid hsz
            have HB := Lib.hid (And.intro hg (And.intro hgl hb))
            have HCP := Lib.hid (And.intro hcap1 hcap2)
            rw [hsz] at HS
            have HS' := Lib.hid HS
            clear hc hf hcap1 hcap2 hb HH HS hget hsz hg hgl HK
            go_wp2_with fail
            with_reducible refine HS'.out.mono ?_
            rintro e w3 ⟨rfl, d', k, os, hp, hs, rfl⟩
            have hz : d'.size = n := by have := hp.1; rw [HHS.out] at this; exact this
            have hh := holds_sortWorld encF w2 g 0 k (arrF xs hfit) d' os HB.out.2.1 HHO.out (by rw [hz, HHS.out])
            have hd := HSI.out d' (by rw [HHS.out]; exact hp) (by rw [HHS.out]; exact hs)
            have hbel := below_sortW w2 (B := w.heap.size) g 0 k d' os HB.out.1 HB.out.2.1 HB.out.2.2.size
            have hgl3 := lt_sortWorld encF w2 g 0 k d' os HB.out.2.1
            generalize sortWorld encF w2 g 0 k d' os = w3 at *
            have hlV : (srtV xs).length = n := by rw [← hd, List.length_map]; simpa using hz
            have harg : ArgF w3 w3.heap.size (some ⟨g, 0, none⟩) n cap (srtV xs) := by
              refine ⟨hlV, HCP.out.1, HCP.out.2, fun x hx => hfit x ((srtV_perm xs).mem_iff.1 hx), fun _ => ⟨g, 0, rfl, hgl3, fun j hj => ?_⟩⟩
              have hj' : j < d'.size := by omega
              have := (hh j hj').1
              rw [this]
              unfold encF
              rw [← hd, List.getD_eq_getElem?_getD, List.getElem?_map, List.getElem?_eq_getElem (by simpa using hj'), getElem!_pos _ j hj']
              simp
            have HBT := Lib.hid (between_any w3 _ n cap (srtV xs) P harg (by omega) HPL.out (fun x hx => HNX.out x ((srtV_perm xs).mem_iff.1 hx)) (srtV_srt xs))
            have HBL := Lib.hid (HB.out.2.2.trans hbel)
            clear hz hh hd hbel hgl3 hlV harg hp hs HHO HHS HSI HS'
            go_wp2_with fail
            with_reducible refine HBT.out.mono ?_
            rintro e w4 ⟨v, rfl, lv, cv, t, rfl⟩
            go_wp2
            go_ret2
            exact ⟨v, rfl, lv, cv, below_drewN HBL.out t⟩
        · have o1 : FloatKind.f64.format.order q 0 = some .lt := a3
          rw [quaE_range H1.out HNN.out (by rw [a2]; rfl)]
          clear a1 a2 a3 h hlen hq nq na
          go_enter Try.func29, Try.ntmps29
          go_wp2_with fail
          with_reducible refine NQ.out.mono ?_
          rintro e w1 ⟨rfl, rfl⟩
          go_wp2_with fail
          with_reducible refine HC.out.mono ?_
          rintro e w1 ⟨rfl, rfl⟩
          go_wp2
          go_ret2
          exact ⟨0, rfl, by omega, can0, Below.refl _ _⟩
        · have o1 : FloatKind.f64.format.order q 0 = some .gt := a3
          rcases ord_one hq nq a1 with ⟨b1, o2⟩ | ⟨b1, o2⟩ | ⟨b1, o2⟩
          · rw [quaE_range H1.out HNN.out (by unfold gt1B; rw [a1, decide_eq_true b1]; simp)]
            clear a1 a2 a3 b1 h hlen hq nq na
            go_enter Try.func29, Try.ntmps29
            go_wp2_with fail
            with_reducible refine NQ.out.mono ?_
            rintro e w1 ⟨rfl, rfl⟩
            go_wp2_with fail
            with_reducible refine HC.out.mono ?_
            rintro e w1 ⟨rfl, rfl⟩
            go_wp2
            go_ret2
            exact ⟨0, rfl, by omega, can0, Below.refl _ _⟩
          · have HG := Lib.hid (show (lt0B q || gt1B q) = false by rw [a2]; unfold gt1B; rw [decide_eq_false (show ¬ 4607182418800017408 < q by omega)]; simp)
            clear a1 a2 a3 b1 h hlen hq nq na
            rcases Nat.eq_zero_or_pos n with h0 | h0
            · have d2 : ((n : Int) == 0) = true := by rw [h0]; rfl
              rw [quaE_none H1.out HNN.out HG.out (by rw [HL.out]; exact h0)]
              clear h0
              go_enter Try.func29, Try.ntmps29
              go_wp2_with fail
              with_reducible refine NQ.out.mono ?_
              rintro e w1 ⟨rfl, rfl⟩
              go_wp2_with fail
              with_reducible refine HC.out.mono ?_
              rintro e w1 ⟨rfl, rfl⟩
              go_wp2
              go_ret2
              exact ⟨0, rfl, by omega, can0, Below.refl _ _⟩
            · have d2 : ((n : Int) == 0) = false := beq_eq_false_iff_ne.2 (by omega)
              rw [quaE_ok H1.out HNN.out HG.out (by rw [HL.out]; omega)]
              obtain ⟨P, hm, hpl, hqp⟩ := qua_pl (xs := xs) HHQ.out HQN.out HG.out (by rw [HL.out]; omega) (by rw [HL.out]; omega)
              rw [hqp]
              rw [HL.out] at hm hpl ⊢
              obtain ⟨l, hl⟩ : ∃ l, n - 1 = l := ⟨_, rfl⟩
              rw [hl] at hm
              have s1 : (n : Int) - 1 = (l : Int) := by omega
              obtain ⟨I, hI⟩ : ∃ I, floatOfInt FloatKind.f64 ((l : Nat) : Int) = I := ⟨_, rfl⟩
              rw [hI] at hm
              have F2 := fun w => run_float_arith (P := Try.prog) w .mul 27 .f64 q I P hm
              obtain ⟨b, off, rfl, hB, _⟩ := HA.out.at_ h0
              have HK := Lib.hid (clone_any w b off n c xs HA.out h0 (by omega))
              have HPL := Lib.hid hpl
              clear hm hpl hqp hB
              go_enter Try.func29, Try.ntmps29
              go_wp2_with fail
              with_reducible refine NQ.out.mono ?_
              rintro e w1 ⟨rfl, rfl⟩
              go_wp2_with fail
              with_reducible refine HC.out.mono ?_
              rintro e w1 ⟨rfl, rfl⟩
              go_wp2_with fail
              with_reducible refine HK.out.mono ?_
              rintro e w2 ⟨g, cap, rfl, hg, hc, hf, hcap1, hcap2, hgl, hb⟩
              have hfit := HA.out.fit
              have hsz : (arrF xs hfit).size = n := by rw [arrF_size]; exact HL.out
              have hget : ∀ j, j < n → (arrF xs hfit)[j]!.val = xs.getD j 0 := fun j hj => by
                have e := arrF_list xs hfit
                have e2 := congrArg (fun l => l.getD j 0) e
                simp only [List.getD_eq_getElem?_getD, List.getElem?_map] at e2
                rw [List.getElem?_eq_getElem (by simpa [hsz] using hj)] at e2
                rw [getElem!_pos _ j (by omega), List.getD_eq_getElem?_getD, ← e2]
                simp
              have HH : Holds encF w2 g 0 (arrF xs hfit) := fun j hj => by
                rw [hsz] at hj
                refine ⟨?_, by rw [Nat.zero_add]; exact hf j⟩
                rw [Nat.zero_add, hc j hj]
                unfold encF
                rw [hget j hj]
              have HS := sortF_any w2 g 0 cap (arrF xs hfit) HH hgl (by omega)
              have HSI := Lib.hid (fun d' hp hs => sorted_is hfit HNX.out (d' := d') hp hs)
              have HHO := Lib.hid HH
              have HHS := Lib.hid hsz
              have HB := Lib.hid (And.intro hg (And.intro hgl hb))
              have HCP := Lib.hid (And.intro hcap1 hcap2)
              rw [hsz] at HS
              have HS' := Lib.hid HS
              clear hc hf hcap1 hcap2 hb HH HS hget hsz hg hgl HK
              go_wp2_with fail
              with_reducible refine HS'.out.mono ?_
              rintro e w3 ⟨rfl, d', k, os, hp, hs, rfl⟩
              have hz : d'.size = n := by have := hp.1; rw [HHS.out] at this; exact this
              have hh := holds_sortWorld encF w2 g 0 k (arrF xs hfit) d' os HB.out.2.1 HHO.out (by rw [hz, HHS.out])
              have hd := HSI.out d' (by rw [HHS.out]; exact hp) (by rw [HHS.out]; exact hs)
              have hbel := below_sortW w2 (B := w.heap.size) g 0 k d' os HB.out.1 HB.out.2.1 HB.out.2.2.size
              have hgl3 := lt_sortWorld encF w2 g 0 k d' os HB.out.2.1
              generalize sortWorld encF w2 g 0 k d' os = w3 at *
              have hlV : (srtV xs).length = n := by rw [← hd, List.length_map]; simpa using hz
              have harg : ArgF w3 w3.heap.size (some ⟨g, 0, none⟩) n cap (srtV xs) := by
                refine ⟨hlV, HCP.out.1, HCP.out.2, fun x hx => hfit x ((srtV_perm xs).mem_iff.1 hx), fun _ => ⟨g, 0, rfl, hgl3, fun j hj => ?_⟩⟩
                have hj' : j < d'.size := by omega
                have := (hh j hj').1
                rw [this]
                unfold encF
                rw [← hd, List.getD_eq_getElem?_getD, List.getElem?_map, List.getElem?_eq_getElem (by simpa using hj'), getElem!_pos _ j hj']
                simp
              have HBT := Lib.hid (between_any w3 _ n cap (srtV xs) P harg (by omega) HPL.out (fun x hx => HNX.out x ((srtV_perm xs).mem_iff.1 hx)) (srtV_srt xs))
              have HBL := Lib.hid (HB.out.2.2.trans hbel)
              clear hz hh hd hbel hgl3 hlV harg hp hs HHO HHS HSI HS'
              go_wp2_with fail
              with_reducible refine HBT.out.mono ?_
              rintro e w4 ⟨v, rfl, lv, cv, t, rfl⟩
              go_wp2
              go_ret2
              exact ⟨v, rfl, lv, cv, below_drewN HBL.out t⟩
          · have HG := Lib.hid (show (lt0B q || gt1B q) = false by rw [a2]; unfold gt1B; rw [decide_eq_false (show ¬ 4607182418800017408 < q by omega)]; simp)
            clear a1 a2 a3 b1 h hlen hq nq na
            rcases Nat.eq_zero_or_pos n with h0 | h0
            · have d2 : ((n : Int) == 0) = true := by rw [h0]; rfl
              rw [quaE_none H1.out HNN.out HG.out (by rw [HL.out]; exact h0)]
              clear h0
              go_enter Try.func29, Try.ntmps29
              go_wp2_with fail
              with_reducible refine NQ.out.mono ?_
              rintro e w1 ⟨rfl, rfl⟩
              go_wp2_with fail
              with_reducible refine HC.out.mono ?_
              rintro e w1 ⟨rfl, rfl⟩
              go_wp2
              go_ret2
              exact ⟨0, rfl, by omega, can0, Below.refl _ _⟩
            · have d2 : ((n : Int) == 0) = false := beq_eq_false_iff_ne.2 (by omega)
              rw [quaE_ok H1.out HNN.out HG.out (by rw [HL.out]; omega)]
              obtain ⟨P, hm, hpl, hqp⟩ := qua_pl (xs := xs) HHQ.out HQN.out HG.out (by rw [HL.out]; omega) (by rw [HL.out]; omega)
              rw [hqp]
              rw [HL.out] at hm hpl ⊢
              obtain ⟨l, hl⟩ : ∃ l, n - 1 = l := ⟨_, rfl⟩
              rw [hl] at hm
              have s1 : (n : Int) - 1 = (l : Int) := by omega
              obtain ⟨I, hI⟩ : ∃ I, floatOfInt FloatKind.f64 ((l : Nat) : Int) = I := ⟨_, rfl⟩
              rw [hI] at hm
              have F2 := fun w => run_float_arith (P := Try.prog) w .mul 27 .f64 q I P hm
              obtain ⟨b, off, rfl, hB, _⟩ := HA.out.at_ h0
              have HK := Lib.hid (clone_any w b off n c xs HA.out h0 (by omega))
              have HPL := Lib.hid hpl
              clear hm hpl hqp hB
              go_enter Try.func29, Try.ntmps29
              go_wp2_with fail
              with_reducible refine NQ.out.mono ?_
              rintro e w1 ⟨rfl, rfl⟩
              go_wp2_with fail
              with_reducible refine HC.out.mono ?_
              rintro e w1 ⟨rfl, rfl⟩
              go_wp2_with fail
              with_reducible refine HK.out.mono ?_
              rintro e w2 ⟨g, cap, rfl, hg, hc, hf, hcap1, hcap2, hgl, hb⟩
              have hfit := HA.out.fit
              have hsz : (arrF xs hfit).size = n := by rw [arrF_size]; exact HL.out
              have hget : ∀ j, j < n → (arrF xs hfit)[j]!.val = xs.getD j 0 := fun j hj => by
                have e := arrF_list xs hfit
                have e2 := congrArg (fun l => l.getD j 0) e
                simp only [List.getD_eq_getElem?_getD, List.getElem?_map] at e2
                rw [List.getElem?_eq_getElem (by simpa [hsz] using hj)] at e2
                rw [getElem!_pos _ j (by omega), List.getD_eq_getElem?_getD, ← e2]
                simp
              have HH : Holds encF w2 g 0 (arrF xs hfit) := fun j hj => by
                rw [hsz] at hj
                refine ⟨?_, by rw [Nat.zero_add]; exact hf j⟩
                rw [Nat.zero_add, hc j hj]
                unfold encF
                rw [hget j hj]
              have HS := sortF_any w2 g 0 cap (arrF xs hfit) HH hgl (by omega)
              have HSI := Lib.hid (fun d' hp hs => sorted_is hfit HNX.out (d' := d') hp hs)
              have HHO := Lib.hid HH
              have HHS := Lib.hid hsz
              have HB := Lib.hid (And.intro hg (And.intro hgl hb))
              have HCP := Lib.hid (And.intro hcap1 hcap2)
              rw [hsz] at HS
              have HS' := Lib.hid HS
              clear hc hf hcap1 hcap2 hb HH HS hget hsz hg hgl HK
              go_wp2_with fail
              with_reducible refine HS'.out.mono ?_
              rintro e w3 ⟨rfl, d', k, os, hp, hs, rfl⟩
              have hz : d'.size = n := by have := hp.1; rw [HHS.out] at this; exact this
              have hh := holds_sortWorld encF w2 g 0 k (arrF xs hfit) d' os HB.out.2.1 HHO.out (by rw [hz, HHS.out])
              have hd := HSI.out d' (by rw [HHS.out]; exact hp) (by rw [HHS.out]; exact hs)
              have hbel := below_sortW w2 (B := w.heap.size) g 0 k d' os HB.out.1 HB.out.2.1 HB.out.2.2.size
              have hgl3 := lt_sortWorld encF w2 g 0 k d' os HB.out.2.1
              generalize sortWorld encF w2 g 0 k d' os = w3 at *
              have hlV : (srtV xs).length = n := by rw [← hd, List.length_map]; simpa using hz
              have harg : ArgF w3 w3.heap.size (some ⟨g, 0, none⟩) n cap (srtV xs) := by
                refine ⟨hlV, HCP.out.1, HCP.out.2, fun x hx => hfit x ((srtV_perm xs).mem_iff.1 hx), fun _ => ⟨g, 0, rfl, hgl3, fun j hj => ?_⟩⟩
                have hj' : j < d'.size := by omega
                have := (hh j hj').1
                rw [this]
                unfold encF
                rw [← hd, List.getD_eq_getElem?_getD, List.getElem?_map, List.getElem?_eq_getElem (by simpa using hj'), getElem!_pos _ j hj']
                simp
              have HBT := Lib.hid (between_any w3 _ n cap (srtV xs) P harg (by omega) HPL.out (fun x hx => HNX.out x ((srtV_perm xs).mem_iff.1 hx)) (srtV_srt xs))
              have HBL := Lib.hid (HB.out.2.2.trans hbel)
              clear hz hh hd hbel hgl3 hlV harg hp hs HHO HHS HSI HS'
              go_wp2_with fail
              with_reducible refine HBT.out.mono ?_
              rintro e w4 ⟨v, rfl, lv, cv, t, rfl⟩
              go_wp2
              go_ret2
              exact ⟨v, rfl, lv, cv, below_drewN HBL.out t⟩
end Go.Proofs.Ytffibfnagoagcaa
