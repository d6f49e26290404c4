/- The law MeterQuarters: its walk. -/
import Derived.Test.YtffibfnagoagcaaQrN
import Derived.Test.YtffibfnagoagcaaApA
import Derived.Test.YtffibfnagoagcaaMetP
import Derived.BigRegion
import Derived.OpenShut
namespace Go.Proofs.Ytffibfnagoagcaa
open Go.RowKit
set_option maxRecDepth 100000
set_option linter.unusedVariables false

theorem lt1000 (x : Nat) (hx : x ≤ 18446744073709551615) : (FloatKind.f64.format.order (szB x) 9110782046170513408 == some .lt) = decide (szB x < 9110782046170513408) := by
  have hz := szB_lt x
  show (ordF (szB x) 9110782046170513408 == some .lt) = _
  rcases Nat.lt_trichotomy (szB x) 9218868437227405312 with h | h | h
  · rw [ordF_pos h (by omega)]
    rcases Nat.lt_trichotomy (szB x) 9110782046170513408 with g | g | g
    · rw [order_lt_iff.2 (by omega), decide_eq_true g]; rfl
    · rw [order_eq_iff.2 (by omega), decide_eq_false (by omega)]; rfl
    · rw [order_gt_iff.2 (by omega), decide_eq_false (by omega)]; rfl
  · have e : szB (szB x) = szB x := szB_szB x
    have hn : negB (szB x) = false := decide_eq_false (by omega)
    rw [ordF_inf_fin (by omega) (by rw [e]; exact h) (by omega) (by decide), hn, decide_eq_false (by omega)]; rfl
  · rw [ordF_nan (by rw [szB_szB]; exact h), decide_eq_false (by omega)]; rfl
theorem can_is {v r : Nat} (h : canB v = r) (hr : nanB r = false) : v = r := by
  unfold canB at h
  rcases hv : nanB v with _ | _
  · rw [hv] at h; exact h
  · rw [hv] at h
    have : nanV = r := h
    rw [← this, nan_nanV] at hr; cases hr
theorem ge_VB {a b : Nat} (ha : a ≤ 18446744073709551615) (hb : b ≤ 18446744073709551615) (fa : szB a < 9218868437227405312) (fb : szB b < 9218868437227405312) (h : VB b ≤ VB a) : (FloatKind.f64.format.order a b == some .gt || FloatKind.f64.format.order a b == some .eq) = true := by
  have e : FloatKind.f64.format.order a b = some (compare (VB a) (VB b)) := ordF_fin ha hb fa fb
  rw [e]
  rcases Int.lt_or_le (VB b) (VB a) with g | g
  · rw [order_gt_iff.2 g]; rfl
  · rw [order_eq_iff.2 (by omega)]; rfl
theorem le_VB {a b : Nat} (ha : a ≤ 18446744073709551615) (hb : b ≤ 18446744073709551615) (fa : szB a < 9218868437227405312) (fb : szB b < 9218868437227405312) (h : VB a ≤ VB b) : (FloatKind.f64.format.order a b == some .lt || FloatKind.f64.format.order a b == some .eq) = true := by
  have e : FloatKind.f64.format.order a b = some (compare (VB a) (VB b)) := ordF_fin ha hb fa fb
  rw [e]
  rcases Int.lt_or_le (VB a) (VB b) with g | g
  · rw [order_lt_iff.2 g]; rfl
  · rw [order_eq_iff.2 (by omega)]; rfl
theorem VB_le {a b : Nat} (ha : a ≤ 18446744073709551615) (hb : b ≤ 18446744073709551615) (fa : szB a < 9218868437227405312) (fb : szB b < 9218868437227405312) (h : (FloatKind.f64.format.order a b == some .lt || FloatKind.f64.format.order a b == some .eq) = true) : VB a ≤ VB b := by
  have e : FloatKind.f64.format.order a b = some (compare (VB a) (VB b)) := ordF_fin ha hb fa fb
  rw [e] at h
  rcases Int.lt_or_le (VB b) (VB a) with g | g
  · rw [order_gt_iff.2 g] at h; cases h
  · exact g
/-- What it means that there is an answer. -/
theorem quaE_zero {xs : List Nat} {q : Nat} (h : (quaE xs q).2 = 0) : ¬ 4096 < xs.length ∧ (nanB q || xs.any nanB) = false ∧ (lt0B q || gt1B q) = false ∧ xs.length ≠ 0 := by
  by_cases h1 : 4096 < xs.length
  · rw [quaE_long h1] at h; cases h
  · rcases h2 : (nanB q || xs.any nanB) with _ | _
    · rcases h3 : (lt0B q || gt1B q) with _ | _
      · by_cases h4 : xs.length = 0
        · rw [quaE_none h1 h2 h3 h4] at h; cases h
        · exact ⟨h1, rfl, rfl, h4⟩
      · rw [quaE_range h1 h2 h3] at h; cases h
    · rw [quaE_nan h1 h2] at h; cases h
/-- A quantile that is there: finite, between the least and the greatest. -/
theorem qua_val {xs : List Nat} {q : Nat} (hq : q ≤ 18446744073709551615) (hx : ∀ x ∈ xs, NtG x) (h : (quaE xs q).2 = 0) :
    szB (quaE xs q).1 < 9218868437227405312 ∧ VB ((srtV xs).getD 0 0) ≤ VB (quaE xs q).1 ∧ VB (quaE xs q).1 ≤ VB ((srtV xs).getD (xs.length - 1) 0) := by
  obtain ⟨h1, h2, h3, h4⟩ := quaE_zero h
  obtain ⟨P, _, hp, hP⟩ := qua_pl hq ((Bool.or_eq_false_iff.1 h2).1) h3 h4 (by omega)
  rw [quaE_ok h1 h2 h3 h4, hP]
  have hl : (srtV xs).length = xs.length := (srtV_perm xs).length_eq
  have hxs : ∀ x ∈ srtV xs, NtG x := fun x hh => hx x ((srtV_perm xs).mem_iff.1 hh)
  obtain ⟨r, e, k1, k2, _, k3⟩ := bet_val hp (by omega) hl hxs (srtV_srt xs)
  show szB (betV (srtV xs) xs.length P) < _ ∧ _ ≤ VB (betV (srtV xs) xs.length P) ∧ VB (betV (srtV xs) xs.length P) ≤ _
  rw [e]
  refine ⟨k1, Int.le_trans ?_ k2, k3⟩
  have hmem : ∀ j, j < xs.length → (srtV xs).getD j 0 ∈ srtV xs := fun j hj => by rw [List.getD_eq_getElem?_getD, List.getElem?_eq_getElem (by omega)]; exact List.getElem_mem _
  rcases Nat.eq_zero_or_pos (fiB P) with g | g
  · rw [g]; exact Int.le_refl _
  · exact idx_val (hxs _ (hmem 0 (by omega))).nan (hxs _ (hmem _ hp.lt)).nan (srt_iff.1 (srtV_srt xs) 0 _ g (by rw [hl]; exact hp.lt))
theorem qua_mono {xs : List Nat} {p q : Nat} (hp : p ≤ 18446744073709551615) (hq : q ≤ 18446744073709551615) (hx : ∀ x ∈ xs, NtG x) (h : (quaE xs p).2 = 0) (k : (quaE xs q).2 = 0)
    (hc : (FloatKind.f64.format.order p q == some .lt || FloatKind.f64.format.order p q == some .eq) = true) : VB (quaE xs p).1 ≤ VB (quaE xs q).1 := by
  obtain ⟨h1, h2, h3, h4⟩ := quaE_zero h
  obtain ⟨_, k2, k3, _⟩ := quaE_zero k
  obtain ⟨P, eP, lP, hP⟩ := qua_pl hp ((Bool.or_eq_false_iff.1 h2).1) h3 h4 (by omega)
  obtain ⟨Q, eQ, lQ, hQ⟩ := qua_pl hq ((Bool.or_eq_false_iff.1 k2).1) k3 h4 (by omega)
  rw [quaE_ok h1 h2 h3 h4, quaE_ok h1 k2 k3 h4, hP, hQ]
  obtain ⟨p1, p2, _⟩ := share_fin hp ((Bool.or_eq_false_iff.1 h2).1) h3
  obtain ⟨q1, q2, _⟩ := share_fin hq ((Bool.or_eq_false_iff.1 k2).1) k3
  have hv : ∀ {x : Nat}, (negB x = true → szB x = 0) → VB x = (WS (szB x) : Int) := fun {x} hh => by
    unfold VB
    rcases hg : negB x with _ | _
    · rfl
    · rw [hh hg, WS_zero]; rfl
  have hle := VB_le hp hq p1 q1 hc
  rw [hv p2, hv q2] at hle
  have hl : (srtV xs).length = xs.length := (srtV_perm xs).length_eq
  exact bet_mono lP lQ (pl_mono hp hq p1 q1 (by omega) (by omega) eP eQ) (by omega) hl (fun x hh => hx x ((srtV_perm xs).mem_iff.1 hh)) (srtV_srt xs)
theorem qua_at0 {xs : List Nat} (h0 : xs.length ≠ 0) (hl : xs.length ≤ 4096) (hx : ∀ x ∈ xs, NtG x) : quaE xs 0 = ((srtV xs).getD 0 0, 0) := by
  have hany : xs.any nanB = false := by
    rcases hb : xs.any nanB with _ | _
    · rfl
    · obtain ⟨x, h2, h3⟩ := List.any_eq_true.1 hb
      rw [(hx x h2).nan] at h3; cases h3
  obtain ⟨P, e1, e2, e3⟩ := qua_0 h0 hl
  obtain ⟨P', _, hp, e4⟩ := qua_pl (xs := xs) (q := 0) (by omega) (by decide) (by decide) h0 hl
  rw [e1] at e4
  subst e4
  have hmem : (srtV xs).getD 0 0 ∈ xs := by
    refine (srtV_perm xs).mem_iff.1 ?_
    rw [List.getD_eq_getElem?_getD, List.getElem?_eq_getElem (by rw [(srtV_perm xs).length_eq]; omega)]; exact List.getElem_mem _
  obtain ⟨f, hf, _, _, fo⟩ := hp.frac (by omega)
  obtain ⟨fe, _⟩ := frac_exact fo
  have hz : szB f = 0 := by
    rw [e3, Nat.zero_mod, ← WS_zero] at fe
    exact WS_inj fe
  rw [quaE_ok (by omega) (by rw [hany]; decide) (by decide) h0, e1, betV_lo hf (.inl hz), e2, can_fin (hx _ hmem).nan]
theorem qua_at1 {xs : List Nat} (h0 : xs.length ≠ 0) (hl : xs.length ≤ 4096) (hx : ∀ x ∈ xs, NtG x) : quaE xs 4607182418800017408 = ((srtV xs).getD (xs.length - 1) 0, 0) := by
  have hany : xs.any nanB = false := by
    rcases hb : xs.any nanB with _ | _
    · rfl
    · obtain ⟨x, h2, h3⟩ := List.any_eq_true.1 hb
      rw [(hx x h2).nan] at h3; cases h3
  obtain ⟨P, e1, e2⟩ := qua_1 h0 hl
  obtain ⟨P', _, hp, e4⟩ := qua_pl (xs := xs) (q := 4607182418800017408) (by omega) (by decide) (by decide) h0 hl
  rw [e1] at e4
  subst e4
  have hmem : (srtV xs).getD (xs.length - 1) 0 ∈ xs := by
    refine (srtV_perm xs).mem_iff.1 ?_
    rw [List.getD_eq_getElem?_getD, List.getElem?_eq_getElem (by rw [(srtV_perm xs).length_eq]; omega)]; exact List.getElem_mem _
  obtain ⟨f, hf, _⟩ := hp.frac (by omega)
  rw [quaE_ok (by omega) (by rw [hany]; decide) (by decide) h0, e1, betV_lo hf (.inr (.inl (by rw [e2]; omega))), e2, can_fin (hx _ hmem).nan]
theorem fl_one (xs : List Nat) : ∀ u ∈ Fl xs, u.oneCell' = true := by
  intro u hu
  obtain ⟨x, _, rfl⟩ := List.mem_map.1 hu
  rfl
theorem fl_at {xs : List Nat} {j : Nat} (h : j < xs.length) : (Fl xs)[j]? = some (.float .f64 (xs.getD j 0)) := by
  unfold Fl
  rw [List.getElem?_map, List.getD_eq_getElem?_getD, List.getElem?_eq_getElem h]; rfl
theorem OwnV.lit0 (w : World) (T : TypeId) : OwnV (w.alloc (.cells #[] T)) w.heap.size (some ⟨w.heap.size, 0, none⟩) 0 0 [] :=
  ⟨rfl, Nat.le_refl _, by unfold maxLen; omega, (fun h => by cases h), fun a h => by
    injection h with h
    subst h
    exact ⟨rfl, Nat.le_refl _, by simp, fun j hj => absurd hj (Nat.not_lt_zero _), fun j v hv => by simp at hv⟩⟩
theorem fl_set (l : List Nat) (j x : Nat) : (Fl l).set j (.float .f64 x) = Fl (l.set j x) := by
  unfold Fl
  rw [List.map_set]
theorem swp2_perm {l : List Nat} {i j : Nat} (hi : i < l.length) (hj : j < l.length) : ((l.set i (l.getD j 0)).set j (l.getD i 0)).Perm l := by
  have e : ∀ {q}, (h : q < l.length) → l.getD q 0 = l[q] := fun h => by rw [List.getD_eq_getElem?_getD, List.getElem?_eq_getElem h]; rfl
  rw [e hi, e hj]
  exact List.set_set_perm hi hj
set_option maxHeartbeats 3200000 in
theorem meterQuarters_w (A : Option Addr) (n c : Nat) (xs : List Nat) (p q : Nat) (i j : Int) (w : World) (h : ArgU w w.heap.size A n c xs) (hn : c ≤ 17592186043904) (hp : p ≤ 18446744073709551615) (hq : q ≤ 18446744073709551615) (hi : -9223372036854775808 ≤ i ∧ i ≤ 9223372036854775807) (hj : -9223372036854775808 ≤ j ∧ j ≤ 9223372036854775807) :
    Calls Try.prog 9 #[.slice A n c, .int .u64 (p : Int), .int .u64 (q : Int), .int .i64 i, .int .i64 j] w (ValEnd w (.bool true)) := by
  have hle := h.le
  obtain ⟨n1, hn1⟩ : ∃ n1, min n 300 = n1 := ⟨_, rfl⟩
  have m1 : (if (n : Int) < 300 then (n : Int) else 300) = (n1 : Int) := by split <;> omega
  have m2 : (if (300 : Int) < (n : Int) then (300 : Int) else (n : Int)) = (n1 : Int) := by split <;> omega
  have m0 : min (n : Int) 300 = (n1 : Int) := by omega
  have m3 : n1 ≤ c := by omega
  have m4 : n1 ≤ 300 := by omega
  have m5 : n1 ≤ n := by omega
  have m6 : (n1 : Int) ≤ (c : Int) := by omega
  have m7 : (0 : Int) ≤ (n1 : Int) := by omega
  have HA := Lib.hid (h.to_ m5)
  obtain ⟨ys, hys⟩ : ∃ ys, xs.take n1 = ys := ⟨_, rfl⟩
  rw [hys] at HA
  have HYL := Lib.hid HA.out.len
  have HFT := Lib.hid HA.out.fit
  have hwi : IntKind.u64.wrap i = i % 18446744073709551616 := rfl
  clear h hys hn1 hwi
  have kst : ∀ (a : Addr) (x : Nat) (w : World), (store a (.float .f64 x)).run Try.prog w = stored Try.prog w a (.float .f64 x) .plain := fun a x w => run_store _ _ _ _ _ rfl
  obtain ⟨i0, hi0, hz0, hz1, hz2⟩ := info_parts f64_info
  go_enter Try.func9, Try.ntmps9
  go_wp2_with fail
  refine (awake8_any _).mono ?_
  rintro e w1 ⟨rfl, hb1⟩
  have HB1 := Lib.hid hb1
  have HL1 := Lib.hid (all_any w1 A n1 c ys (by
    have := HA.out.below hb1
    exact ⟨this.len, this.le, this.cap, this.fit, fun h0 => by obtain ⟨b, off, e, hb, hc⟩ := this.at_ h0; exact ⟨b, off, e, Nat.lt_of_lt_of_le hb hb1.size, hc⟩⟩) (by omega))
  clear hb1
  go_wp2_with fail
  with_reducible refine HL1.out.mono ?_
  rintro e w2 ⟨A1, c1, rfl, ho1, hb2⟩
  have HB2 := Lib.hid (HB1.out.trans (hb2.mono HB1.out.size))
  have HO2 := Lib.hid (ho1.mono HB1.out.size)
  have hz2s := HB2.out.size
  clear ho1 hb2 HL1 HB1
  go_wp2_with fail
  go_loopw [36] (fun iv wr => ∃ k : Nat, k ≤ n1 ∧ iv = .int .i64 (k : Int) ∧ wr = w2 ∧ ∀ x ∈ ys.take k, szB x < 9110782046170513408) (fun iv _ => n1 - (intOf iv).toNat)
  case atStart => exact ⟨0, Nat.zero_le _, rfl, rfl, by simp⟩
  case round =>
    obtain ⟨k, hk, rfl, rfl, hs⟩ := hrel
    rename World => w2
    have HS := Lib.hid hs
    clear hs
    rcases Nat.lt_or_ge k n1 with h1 | h1
    · obtain ⟨b3, o3, rfl, _, _, hc3, _⟩ := HO2.out.cell (by omega)
      have hkl : k < ys.length := by rw [HYL.out]; exact h1
      have q0 := hc3 k _ (fl_at hkl)
      have hx := HFT.out _ (show ys.getD k 0 ∈ ys by rw [List.getD_eq_getElem?_getD, List.getElem?_eq_getElem hkl]; exact List.getElem_mem _)
      have htk : ys.take (k + 1) = ys.take k ++ [ys.getD k 0] := by rw [List.take_succ_eq_append_getElem hkl, List.getD_eq_getElem?_getD, List.getElem?_eq_getElem hkl]; rfl
      have HTK := Lib.hid htk
      have k0 : (0 : Int) ≤ (k : Int) := by omega
      have k1 : (k : Int) < (n1 : Int) := by omega
      have hlt := lt1000 (ys.getD k 0) hx
      have HAB := Lib.hid (abs_any w2 (ys.getD k 0) hx)
      clear hc3 htk
      generalize ys.getD k 0 = x at *
      by_cases hc : szB x < 9110782046170513408
      · rw [decide_eq_true hc] at hlt
        have HR : Hid (∀ y ∈ ys.take (k + 1), szB y < 9110782046170513408) := Lib.hid (by
          rw [HTK.out]
          intro y hy
          rcases List.mem_append.1 hy with g | g
          · exact HS.out y g
          · simp at g; subst g; exact hc)
        clear hc
        go_wp2_with fail
        with_reducible refine HAB.out.mono ?_
        rintro e w3 ⟨rfl, rfl⟩
        go_wp2
        go_roundw
        case rel => exact ⟨k + 1, by omega, by push_cast; rfl, by first | rfl | trivial, HR.out⟩
        case measure => simp [intOf] <;> omega
      · rw [decide_eq_false hc] at hlt
        clear hc
        go_wp2_with fail
        with_reducible refine HAB.out.mono ?_
        rintro e w3 ⟨rfl, rfl⟩
        go_wp2
        go_ret
        exact ⟨rfl, HB2.out⟩
    · obtain rfl : k = n1 := by omega
      have jn : ¬ (k : Int) < (k : Int) := by omega
      have htk : ys.take k = ys := List.take_of_length_le (by rw [HYL.out]; exact Nat.le_refl _)
      have HNT : Hid (∀ x ∈ ys, NtG x) := Lib.hid (fun x hx => ⟨HFT.out x hx, HS.out x (by rw [htk]; exact hx)⟩)
      clear htk HS
      have HOP := Lib.hid (ofP_any w2 A1 k c1 ys (HO2.out.argF HFT.out) (by omega))
      go_wp2_with fail
      with_reducible refine HOP.out.mono ?_
      rintro e w3 ⟨⟨mn, md, ms, ml, mlo, mhi, mme, msp⟩, rfl, ok1, can1, hb3⟩
      simp only [MV.val]
      have K1 := BlkL.new w3 [.int .i64 mn, .int .i64 md, .float .f64 ms, .float .f64 ml, .float .f64 mlo, .float .f64 mhi, .float .f64 mme, .float .f64 msp] 29
      have hb3' : Below w2.heap.size w2 (w3.alloc (.cells #[.int .i64 mn, .int .i64 md, .float .f64 ms, .float .f64 ml, .float .f64 mlo, .float .f64 mhi, .float .f64 mme, .float .f64 msp] 29)) := hb3.alloc hb3.size _
      have HB4 := Lib.hid (HB2.out.trans (hb3'.mono HB2.out.size))
      have HO4 := Lib.hid (HO2.out.below hb3')
      have HK4 := Lib.hid K1
      have hlow := congrArg MV.low can1
      have hhigh := congrArg MV.high can1
      have HLW : Hid (canB mlo = (addAll newM.can ys).low ∧ canB mhi = (addAll newM.can ys).high) := Lib.hid ⟨hlow, hhigh⟩
      clear hb3 hb3' ok1 can1 K1 HOP HB2 HO2 hlow hhigh
      obtain ⟨Zp, hZp⟩ : ∃ Zp, quaE ys p = Zp := ⟨_, rfl⟩
      obtain ⟨cp, ep⟩ := Zp
      obtain ⟨Zq, hZq⟩ : ∃ Zq, quaE ys q = Zq := ⟨_, rfl⟩
      obtain ⟨cq, eq⟩ := Zq
      have HZP := Lib.hid hZp
      have HZQ := Lib.hid hZq
      clear hZp hZq
      go_upto_region 11 with (fail)
      generalize (w3.alloc (.cells #[.int .i64 mn, .int .i64 md, .float .f64 ms, .float .f64 ml, .float .f64 mlo, .float .f64 mhi, .float .f64 mme, .float .f64 msp] 29)) = w4 at *
      generalize w3.heap.size = mb at *
      have HOF := Lib.hid (of8_any w4 p)
      have HQP := Lib.hid (quantP_any w4 A1 k c1 ys p (HO4.out.argF HFT.out) hp)
      rw [HZP.out] at HQP
      unfold FE at HQP
      go_wp2_with fail
      with_reducible refine HOF.out.mono ?_
      rintro e w5 ⟨rfl, rfl⟩
      go_wp2_with fail
      with_reducible refine HQP.out.mono ?_
      rintro e w5 ⟨x1, rfl, lx, cx, hb5⟩
      have HB5 := Lib.hid (HB4.out.trans (hb5.mono HB4.out.size))
      have HO5 := Lib.hid (HO4.out.below hb5)
      have HK5 := Lib.hid (HK4.out.below hb5)
      have HX1 := Lib.hid (And.intro lx cx)
      clear hb5 lx cx HQP HOF HB4 HO4 HK4
      have HOF := Lib.hid (of8_any w5 q)
      have HQP := Lib.hid (quantP_any w5 A1 k c1 ys q (HO5.out.argF HFT.out) hq)
      rw [HZQ.out] at HQP
      unfold FE at HQP
      go_wp2_with fail
      with_reducible refine HOF.out.mono ?_
      rintro e w6 ⟨rfl, rfl⟩
      go_wp2_with fail
      with_reducible refine HQP.out.mono ?_
      rintro e w6 ⟨y1, rfl, ly, cy, hb6⟩
      have HB6 := Lib.hid (HB5.out.trans (hb6.mono HB5.out.size))
      have HO6 := Lib.hid (HO5.out.below hb6)
      have HK6 := Lib.hid (HK5.out.below hb6)
      have HY1 := Lib.hid (And.intro ly cy)
      clear hb6 ly cy HQP HOF HB5 HO5 HK5
      rcases hep : (ep != 0) with _ | _
      · rcases heq : (eq != 0) with _ | _
        · obtain rfl : ep = 0 := by simpa using hep
          obtain rfl : eq = 0 := by simpa using heq
          have hQZ := quaE_zero (xs := ys) (q := p) (by rw [HZP.out])
          have hyl := HYL.out
          have h0 : ys.length ≠ 0 := hQZ.2.2.2
          have hk0 : 0 < k := by omega
          have E0 := qua_at0 h0 (by omega) HNT.out
          have E1 := qua_at1 h0 (by omega) HNT.out
          obtain ⟨V1, V2, V3⟩ := qua_val hp HNT.out (by rw [HZP.out])
          rw [HZP.out] at V1 V2 V3
          obtain ⟨U1, _, _⟩ := qua_val hq HNT.out (by rw [HZQ.out])
          rw [HZQ.out] at U1
          have VM := qua_mono (xs := ys) hp hq HNT.out (by rw [HZP.out]) (by rw [HZQ.out])
          rw [HZP.out, HZQ.out] at VM
          obtain ⟨L1, L2⟩ := low_srt h0 HNT.out
          have hLW := HLW.out
          rw [L1, L2] at hLW
          have hmem : ∀ j, j < ys.length → (srtV ys).getD j 0 ∈ ys := fun j hj => by
            refine (srtV_perm ys).mem_iff.1 ?_
            rw [List.getD_eq_getElem?_getD, List.getElem?_eq_getElem (by rw [(srtV_perm ys).length_eq]; omega)]; exact List.getElem_mem _
          have g0 := HNT.out _ (hmem 0 (by omega))
          have g1 := HNT.out _ (hmem (ys.length - 1) (by omega))
          obtain ⟨hL, hLe⟩ : ∃ hL, (srtV ys).getD 0 0 = hL := ⟨_, rfl⟩
          obtain ⟨hH, hHe⟩ : ∃ hH, (srtV ys).getD (ys.length - 1) 0 = hH := ⟨_, rfl⟩
          rw [hLe] at g0 V2 E0 hLW
          rw [hHe] at g1 V3 E1 hLW
          obtain rfl : mlo = hL := can_is hLW.1 g0.nan
          obtain rfl : mhi = hH := can_is hLW.2 g1.nan
          obtain rfl : x1 = cp := can_is HX1.out.2 (decide_eq_false (by simp at V1; omega))
          obtain rfl : y1 = cq := can_is HY1.out.2 (decide_eq_false (by simp at U1; omega))
          have B1 := ge_VB HX1.out.1 g0.1 V1 g0.fin V2
          have B2 := le_VB HX1.out.1 g1.1 V1 g1.fin V3
          have HVM := Lib.hid (fun hc => le_VB HX1.out.1 HY1.out.1 V1 U1 (VM hc))
          have HQ0 := Lib.hid (quantP_any w6 A1 k c1 ys 0 (HO6.out.argF HFT.out) (by omega))
          rw [E0] at HQ0
          unfold FE at HQ0
          have HG := Lib.hid (And.intro g0 g1)
          have HXN : Hid (x1 ≤ 18446744073709551615 ∧ nanB x1 = false) := Lib.hid ⟨HX1.out.1, decide_eq_false (by have h9 : szB x1 < 9218868437227405312 := V1; omega)⟩
          clear V1 V2 V3 U1 VM L1 L2 hLW hmem hLe hHe hQZ h0 hyl hep heq HX1 HY1 HLW
          go_wp2_with fail
          with_reducible refine HQ0.out.mono ?_
          rintro e w7 ⟨lo1, rfl, llo, clo, hb7⟩
          obtain rfl : lo1 = mlo := can_is clo HG.out.1.nan
          have HB7 := Lib.hid (HB6.out.trans (hb7.mono HB6.out.size))
          have HO7 := Lib.hid (HO6.out.below hb7)
          have HK7 := Lib.hid (HK6.out.below hb7)
          have HQ1 := Lib.hid (quantP_any w7 A1 k c1 ys 4607182418800017408 (HO7.out.argF HFT.out) (by omega))
          rw [E1] at HQ1
          unfold FE at HQ1
          clear hb7 llo clo HQ0 HB6 HO6 HK6
          go_wp2_with fail
          with_reducible refine HQ1.out.mono ?_
          rintro e w8 ⟨hi1, rfl, lhi, chi, hb8⟩
          obtain rfl : hi1 = mhi := can_is chi HG.out.2.nan
          have HB8 := Lib.hid (HB7.out.trans (hb8.mono HB7.out.size))
          have HO8 := Lib.hid (HO7.out.below hb8)
          have k8 := HK7.out.below hb8
          have a4 := k8.cell 4 _ rfl
          have a5 := k8.cell 5 _ rfl
          have al := k8.lt
          have HS1 := Lib.hid (same_yes w8 lo1 lo1 HG.out.1.1 HG.out.1.1 rfl)
          have HS2 := Lib.hid (same_yes w8 hi1 hi1 HG.out.2.1 HG.out.2.1 rfl)
          clear hb8 lhi chi HQ1 HB7 HO7 HK7 k8
          go_wp2_with fail
          with_reducible refine HS1.out.mono ?_
          rintro e w9 ⟨rfl, rfl⟩
          go_wp2_with fail
          with_reducible refine HS2.out.mono ?_
          rintro e w9 ⟨rfl, rfl⟩
          have HOF1 := Lib.hid (of8_any w8 p)
          have HOF2 := Lib.hid (of8_any w8 q)
          go_wp2_with fail
          with_reducible refine HOF1.out.mono ?_
          rintro e w9 ⟨rfl, rfl⟩
          go_wp2_with fail
          with_reducible refine HOF2.out.mono ?_
          rintro e w9 ⟨rfl, rfl⟩
          clear HOF1 HOF2 HS1 HS2
          obtain ⟨i1, hi1⟩ : ∃ i1 : Nat, i % 18446744073709551616 = (i1 : Int) := ⟨(i % 18446744073709551616).toNat, by omega⟩
          obtain ⟨j1, hj1⟩ : ∃ j1 : Nat, j % 18446744073709551616 = (j1 : Int) := ⟨(j % 18446744073709551616).toNat, by omega⟩
          have wi1 : IntKind.u64.wrap i = (i1 : Int) := by rw [IntKind.wrap_u64]; exact hi1
          have wj1 : IntKind.u64.wrap j = (j1 : Int) := by rw [IntKind.wrap_u64]; exact hj1
          have wk1 : IntKind.u64.wrap (k : Int) = (k : Int) := IntWalk.u64_in _ (by omega)
          obtain ⟨i2, hi2⟩ : ∃ i2, i1 % k = i2 := ⟨_, rfl⟩
          obtain ⟨j2, hj2⟩ : ∃ j2, j1 % k = j2 := ⟨_, rfl⟩
          have li2 : i2 < k := hi2 ▸ Nat.mod_lt _ hk0
          have lj2 : j2 < k := hj2 ▸ Nat.mod_lt _ hk0
          have ri : Int.tmod (i1 : Int) (k : Int) = (i2 : Int) := by rw [Int.tmod_eq_emod_of_nonneg (by omega), ← hi2]; rfl
          have rj : Int.tmod (j1 : Int) (k : Int) = (j2 : Int) := by rw [Int.tmod_eq_emod_of_nonneg (by omega), ← hj2]; rfl
          have wi2 : IntKind.u64.wrap (i2 : Int) = (i2 : Int) := IntWalk.u64_in _ (by omega)
          have wj2 : IntKind.u64.wrap (j2 : Int) = (j2 : Int) := IntWalk.u64_in _ (by omega)
          have vi2 : IntKind.i64.wrap (i2 : Int) = (i2 : Int) := IntWalk.i64_in _ (by omega)
          have vj2 : IntKind.i64.wrap (j2 : Int) = (j2 : Int) := IntWalk.i64_in _ (by omega)
          have nk0 : (k : Int) ≠ 0 := by omega
          have nk1 : ((k : Int) == 0) = false := by simpa using nk0
          clear hi1 hj1 hi2 hj2
          rcases hc : (FloatKind.f64.format.order p q == some .lt || FloatKind.f64.format.order p q == some .eq) with _ | _
          · clear HVM
            go_upto_region 21 with (fail)
            go_region
            have HB9 := Lib.hid HB8.out.drew
            have HO9 := Lib.hid (HO8.out.below (Below.refl _ _).drew)
            clear HB8 HO8 a4 a5 al B1 B2 wi1 wj1 wk1 ri rj wi2 wj2 vi2 vj2 g0 g1 hc E0 E1
            generalize w8.drew = w9 at *
            have hz9 := HB9.out.size
            have bl9 := (Below.refl w9.heap.size w9).alloc (Nat.le_refl _) (.cells #[] 27)
            have HO0 := Lib.hid (OwnV.lit0 w9 27)
            have HS9 := Lib.hid ((HO9.out.below bl9).srcV (fl_one ys))
            have HBL := Lib.hid bl9
            have hcm : A1 = none → c1 = 0 := fun e => (HO9.out.none_ e).2
            have hkk : (0 + k) * 8 ≤ 140737488355328 := by omega
            have HZ9 : Hid (w9.heap.size ≤ (w9.alloc (.cells #[] 27)).heap.size) := Lib.hid (by simp)
            clear bl9
            go_wp2_with (refine wpList_append_a Try.underlying43 hi0 hz0 hz1 hz2 rfl rfl (.tmp 144) (.tmp 145) rfl rfl HO0.out A1 k c1 (Fl ys) rfl HS9.out hcm (by omega) hkk HZ9.out ?_)
            intro A2 c2 w10 ho10 hf10 hg10
            have hb10 := HBL.out.trans (hf10.below HZ9.out (fun y hy => by simp [bkV] at hy; omega))
            have HB10 := Lib.hid (HB9.out.trans (hb10.mono hz9))
            have HO10 := Lib.hid (ho10.mono hz9)
            clear hf10 hg10 hb10 HBL HS9 HO0 HZ9 hcm hkk HB9 HO9
            obtain ⟨b2, o2, rfl, hbB, hbl, hc2, hf2⟩ := ho10.cell hk0
            have hyl := HYL.out
            have li2' : i2 < ys.length := by omega
            have lj2' : j2 < ys.length := by omega
            have a0 := hc2 i2 _ (fl_at li2')
            have a1 := hc2 j2 _ (fl_at lj2')
            have f0 := hf2 i2 (by have := ho10.le; omega)
            have f1 := hf2 j2 (by have := ho10.le; omega)
            have hset := ho10.set i2 (.float .f64 (ys.getD j2 0)) li2
            have hset2 := (hset.set j2 (.float .f64 (ys.getD i2 0)) lj2).below (Below.refl _ _).drew
            rw [fl_set, fl_set] at hset2
            have HPM := Lib.hid (swp2_perm li2' lj2')
            have HSET := Lib.hid hset2
            have HBS := Lib.hid (HB10.out.trans ((((Off.refl [b2] w10).setCell (p := ⟨b2, o2 + i2, none⟩) (by simp) (.float .f64 (ys.getD j2 0))).setCell (p := ⟨b2, o2 + j2, none⟩) (by simp) (.float .f64 (ys.getD i2 0))).drew.below HB10.out.size (by simp; omega)))
            clear hset hset2 hc2 hf2 ho10 HO10 HB10
            have d0 : (0 : Int) ≤ (i2 : Int) := by omega
            have d1 : (i2 : Int) < (k : Int) := by omega
            have d2 : (0 : Int) ≤ (j2 : Int) := by omega
            have d3 : (j2 : Int) < (k : Int) := by omega
            generalize hzs : ((ys.set i2 (ys.getD j2 0)).set j2 (ys.getD i2 0)) = zs at *
            generalize ys.getD i2 0 = yi at *
            generalize ys.getD j2 0 = yj at *
            clear hzs
            go_upto_region 23 with (fail)
            by_cases hij : i2 = j2
            · subst hij
              obtain rfl : yj = yi := by rw [a0] at a1; injection a1 with a1; injection a1 with _ a1; exact a1.symm
              go_region
              generalize ((w10.setCell ⟨b2, o2 + i2, none⟩ (.float .f64 yj)).setCell ⟨b2, o2 + i2, none⟩ (.float .f64 yj)).drew = w11 at *
              have hf11 : ∀ x ∈ zs, x ≤ 18446744073709551615 := fun x hx => HFT.out x (HPM.out.mem_iff.1 hx)
              have HQ2 := Lib.hid (quantP_any w11 (some ⟨b2, o2, none⟩) k c2 zs p (HSET.out.argF hf11) hp)
              rw [quaE_same HPM.out HNT.out p, HZP.out] at HQ2
              unfold FE at HQ2
              have HOF1 := Lib.hid (of8_any w11 p)
              clear hf11 HSET HPM
              go_wp2_with fail
              with_reducible refine HOF1.out.mono ?_
              rintro e w12 ⟨rfl, rfl⟩
              go_wp2_with fail
              with_reducible refine HQ2.out.mono ?_
              rintro e w12 ⟨z1, rfl, lz, cz, hb12⟩
              obtain rfl : z1 = x1 := can_is cz HXN.out.2
              have HB12 := Lib.hid (HBS.out.trans (hb12.mono HBS.out.size))
              have HS1 := Lib.hid (same_yes w12 z1 z1 HXN.out.1 HXN.out.1 rfl)
              clear lz cz hb12 HBS HQ2 HOF1
              go_wp2_with fail
              with_reducible refine HS1.out.mono ?_
              rintro e w13 ⟨rfl, rfl⟩
              go_wp2
              go_ret
              exact ⟨rfl, HB12.out⟩
            · have ne1 : o2 + i2 ≠ o2 + j2 := by omega
              have ne2 : o2 + j2 ≠ o2 + i2 := by omega
              go_region
              generalize ((w10.setCell ⟨b2, o2 + i2, none⟩ (.float .f64 yj)).setCell ⟨b2, o2 + j2, none⟩ (.float .f64 yi)).drew = w11 at *
              have hf11 : ∀ x ∈ zs, x ≤ 18446744073709551615 := fun x hx => HFT.out x (HPM.out.mem_iff.1 hx)
              have HQ2 := Lib.hid (quantP_any w11 (some ⟨b2, o2, none⟩) k c2 zs p (HSET.out.argF hf11) hp)
              rw [quaE_same HPM.out HNT.out p, HZP.out] at HQ2
              unfold FE at HQ2
              have HOF1 := Lib.hid (of8_any w11 p)
              clear hf11 HSET HPM
              go_wp2_with fail
              with_reducible refine HOF1.out.mono ?_
              rintro e w12 ⟨rfl, rfl⟩
              go_wp2_with fail
              with_reducible refine HQ2.out.mono ?_
              rintro e w12 ⟨z1, rfl, lz, cz, hb12⟩
              obtain rfl : z1 = x1 := can_is cz HXN.out.2
              have HB12 := Lib.hid (HBS.out.trans (hb12.mono HBS.out.size))
              have HS1 := Lib.hid (same_yes w12 z1 z1 HXN.out.1 HXN.out.1 rfl)
              clear lz cz hb12 HBS HQ2 HOF1
              go_wp2_with fail
              with_reducible refine HS1.out.mono ?_
              rintro e w13 ⟨rfl, rfl⟩
              go_wp2
              go_ret
              exact ⟨rfl, HB12.out⟩
          · have B3 := HVM.out hc
            clear HVM
            go_upto_region 21 with (fail)
            go_region
            have HB9 := Lib.hid HB8.out.drew
            have HO9 := Lib.hid (HO8.out.below (Below.refl _ _).drew)
            clear HB8 HO8 a4 a5 al B1 B2 B3 wi1 wj1 wk1 ri rj wi2 wj2 vi2 vj2 g0 g1 hc E0 E1
            generalize w8.drew = w9 at *
            have hz9 := HB9.out.size
            have bl9 := (Below.refl w9.heap.size w9).alloc (Nat.le_refl _) (.cells #[] 27)
            have HO0 := Lib.hid (OwnV.lit0 w9 27)
            have HS9 := Lib.hid ((HO9.out.below bl9).srcV (fl_one ys))
            have HBL := Lib.hid bl9
            have hcm : A1 = none → c1 = 0 := fun e => (HO9.out.none_ e).2
            have hkk : (0 + k) * 8 ≤ 140737488355328 := by omega
            have HZ9 : Hid (w9.heap.size ≤ (w9.alloc (.cells #[] 27)).heap.size) := Lib.hid (by simp)
            clear bl9
            go_wp2_with (refine wpList_append_a Try.underlying43 hi0 hz0 hz1 hz2 rfl rfl (.tmp 144) (.tmp 145) rfl rfl HO0.out A1 k c1 (Fl ys) rfl HS9.out hcm (by omega) hkk HZ9.out ?_)
            intro A2 c2 w10 ho10 hf10 hg10
            have hb10 := HBL.out.trans (hf10.below HZ9.out (fun y hy => by simp [bkV] at hy; omega))
            have HB10 := Lib.hid (HB9.out.trans (hb10.mono hz9))
            have HO10 := Lib.hid (ho10.mono hz9)
            clear hf10 hg10 hb10 HBL HS9 HO0 HZ9 hcm hkk HB9 HO9
            obtain ⟨b2, o2, rfl, hbB, hbl, hc2, hf2⟩ := ho10.cell hk0
            have hyl := HYL.out
            have li2' : i2 < ys.length := by omega
            have lj2' : j2 < ys.length := by omega
            have a0 := hc2 i2 _ (fl_at li2')
            have a1 := hc2 j2 _ (fl_at lj2')
            have f0 := hf2 i2 (by have := ho10.le; omega)
            have f1 := hf2 j2 (by have := ho10.le; omega)
            have hset := ho10.set i2 (.float .f64 (ys.getD j2 0)) li2
            have hset2 := (hset.set j2 (.float .f64 (ys.getD i2 0)) lj2).below (Below.refl _ _).drew
            rw [fl_set, fl_set] at hset2
            have HPM := Lib.hid (swp2_perm li2' lj2')
            have HSET := Lib.hid hset2
            have HBS := Lib.hid (HB10.out.trans ((((Off.refl [b2] w10).setCell (p := ⟨b2, o2 + i2, none⟩) (by simp) (.float .f64 (ys.getD j2 0))).setCell (p := ⟨b2, o2 + j2, none⟩) (by simp) (.float .f64 (ys.getD i2 0))).drew.below HB10.out.size (by simp; omega)))
            clear hset hset2 hc2 hf2 ho10 HO10 HB10
            have d0 : (0 : Int) ≤ (i2 : Int) := by omega
            have d1 : (i2 : Int) < (k : Int) := by omega
            have d2 : (0 : Int) ≤ (j2 : Int) := by omega
            have d3 : (j2 : Int) < (k : Int) := by omega
            generalize hzs : ((ys.set i2 (ys.getD j2 0)).set j2 (ys.getD i2 0)) = zs at *
            generalize ys.getD i2 0 = yi at *
            generalize ys.getD j2 0 = yj at *
            clear hzs
            go_upto_region 23 with (fail)
            by_cases hij : i2 = j2
            · subst hij
              obtain rfl : yj = yi := by rw [a0] at a1; injection a1 with a1; injection a1 with _ a1; exact a1.symm
              go_region
              generalize ((w10.setCell ⟨b2, o2 + i2, none⟩ (.float .f64 yj)).setCell ⟨b2, o2 + i2, none⟩ (.float .f64 yj)).drew = w11 at *
              have hf11 : ∀ x ∈ zs, x ≤ 18446744073709551615 := fun x hx => HFT.out x (HPM.out.mem_iff.1 hx)
              have HQ2 := Lib.hid (quantP_any w11 (some ⟨b2, o2, none⟩) k c2 zs p (HSET.out.argF hf11) hp)
              rw [quaE_same HPM.out HNT.out p, HZP.out] at HQ2
              unfold FE at HQ2
              have HOF1 := Lib.hid (of8_any w11 p)
              clear hf11 HSET HPM
              go_wp2_with fail
              with_reducible refine HOF1.out.mono ?_
              rintro e w12 ⟨rfl, rfl⟩
              go_wp2_with fail
              with_reducible refine HQ2.out.mono ?_
              rintro e w12 ⟨z1, rfl, lz, cz, hb12⟩
              obtain rfl : z1 = x1 := can_is cz HXN.out.2
              have HB12 := Lib.hid (HBS.out.trans (hb12.mono HBS.out.size))
              have HS1 := Lib.hid (same_yes w12 z1 z1 HXN.out.1 HXN.out.1 rfl)
              clear lz cz hb12 HBS HQ2 HOF1
              go_wp2_with fail
              with_reducible refine HS1.out.mono ?_
              rintro e w13 ⟨rfl, rfl⟩
              go_wp2
              go_ret
              exact ⟨rfl, HB12.out⟩
            · have ne1 : o2 + i2 ≠ o2 + j2 := by omega
              have ne2 : o2 + j2 ≠ o2 + i2 := by omega
              go_region
              generalize ((w10.setCell ⟨b2, o2 + i2, none⟩ (.float .f64 yj)).setCell ⟨b2, o2 + j2, none⟩ (.float .f64 yi)).drew = w11 at *
              have hf11 : ∀ x ∈ zs, x ≤ 18446744073709551615 := fun x hx => HFT.out x (HPM.out.mem_iff.1 hx)
              have HQ2 := Lib.hid (quantP_any w11 (some ⟨b2, o2, none⟩) k c2 zs p (HSET.out.argF hf11) hp)
              rw [quaE_same HPM.out HNT.out p, HZP.out] at HQ2
              unfold FE at HQ2
              have HOF1 := Lib.hid (of8_any w11 p)
              clear hf11 HSET HPM
              go_wp2_with fail
              with_reducible refine HOF1.out.mono ?_
              rintro e w12 ⟨rfl, rfl⟩
              go_wp2_with fail
              with_reducible refine HQ2.out.mono ?_
              rintro e w12 ⟨z1, rfl, lz, cz, hb12⟩
              obtain rfl : z1 = x1 := can_is cz HXN.out.2
              have HB12 := Lib.hid (HBS.out.trans (hb12.mono HBS.out.size))
              have HS1 := Lib.hid (same_yes w12 z1 z1 HXN.out.1 HXN.out.1 rfl)
              clear lz cz hb12 HBS HQ2 HOF1
              go_wp2_with fail
              with_reducible refine HS1.out.mono ?_
              rintro e w13 ⟨rfl, rfl⟩
              go_wp2
              go_ret
              exact ⟨rfl, HB12.out⟩
        · go_wp2
          go_ret
          exact ⟨rfl, HB6.out⟩
      · go_wp2
        go_ret
        exact ⟨rfl, HB6.out⟩
theorem meterQuarters_walk (A : Option Addr) (n c : Nat) (xs : List Nat) (p q i j : Int) (w : World) (h : ArgU w w.heap.size A n c xs) (hn : c ≤ 17592186043904) (wp : (Lit.int .u64 p).wf = true) (wq : (Lit.int .u64 q).wf = true) (wi : (Lit.int .i64 i).wf = true) (wj : (Lit.int .i64 j).wf = true) :
    Calls Try.prog 9 #[.slice A n c, .int .u64 p, .int .u64 q, .int .i64 i, .int .i64 j] w (ValEnd w (.bool true)) := by
  have b1 := bounds_u64 wp
  have b2 := bounds_u64 wq
  have b3 := bounds_i64 wi
  have b4 := bounds_i64 wj
  obtain ⟨p, rfl⟩ : ∃ k : Nat, p = (k : Int) := ⟨p.toNat, by omega⟩
  obtain ⟨q, rfl⟩ : ∃ k : Nat, q = (k : Int) := ⟨q.toNat, by omega⟩
  exact meterQuarters_w A n c xs p q i j w h hn (by omega) (by omega) ⟨by omega, by omega⟩ ⟨by omega, by omega⟩
end Go.Proofs.Ytffibfnagoagcaa
