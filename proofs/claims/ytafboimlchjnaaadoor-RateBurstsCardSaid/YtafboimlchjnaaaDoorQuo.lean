/- Contract: Quo of the document's numbers. -/
import Derived.Test.YtafboimlchjnaaaDoorTimes
namespace Go.Proofs.YtafboimlchjnaaaDoor
open Go.RowKit
set_option maxRecDepth 100000

/-- What Quo holds where k steps are left: what is left of the number, and the quotient so far. -/
def QuoRel (N M k a q : Nat) : Prop := a + q * M = N ∧ a < M * 2 ^ k

theorem QuoRel.sub {N M k a q : Nat} (h : QuoRel N M (k + 1) a q) (hle : M * 2 ^ k ≤ a) : QuoRel N M k (a - M * 2 ^ k) (q + 1 * 2 ^ k) := by
  obtain ⟨h1, h2⟩ := h
  rw [Nat.pow_succ, ← Nat.mul_assoc] at h2
  refine ⟨?_, by omega⟩
  rw [Nat.add_mul, Nat.one_mul, Nat.mul_comm (2 ^ k) M]
  omega

theorem QuoRel.stay {N M k a q : Nat} (h : QuoRel N M (k + 1) a q) (hlt : a < M * 2 ^ k) : QuoRel N M k a q := ⟨h.1, hlt⟩

theorem QuoRel.done {N M a q : Nat} (h : QuoRel N M 0 a q) : q = N / M ∧ a = N % M := by
  obtain ⟨h1, h2⟩ := h
  rw [Nat.pow_zero, Nat.mul_one] at h2
  have hM : 0 < M := by omega
  have e : N / M = q := by
    rw [← h1, Nat.add_mul_div_right _ _ hM, Nat.div_eq_of_lt h2, Nat.zero_add]
  have e2 : N % M = a := by
    rw [← h1, Nat.add_mul_mod_self_right, Nat.mod_eq_of_lt h2]
  exact ⟨e.symm, e2.symm⟩

theorem QuoRel.start {N M : Nat} (hM : 0 < M) : QuoRel N M (bits N + 1 - bits M) N 0 := by
  refine ⟨by omega, ?_⟩
  have h1 := bits_lt N
  have h2 := (bits_le hM).2
  have h3 := (bits_le hM).1
  have h4 : 2 ^ (bits M - 1) * 2 ^ (bits N + 1 - bits M) ≤ M * 2 ^ (bits N + 1 - bits M) := Nat.mul_le_mul_right _ h2
  rw [← Nat.pow_add] at h4
  have h5 : 2 ^ bits N ≤ 2 ^ (bits M - 1 + (bits N + 1 - bits M)) := Nat.pow_le_pow_right (by omega) (by omega)
  omega

theorem bits_le_len {xs : List Nat} {N : Nat} (h : Mth.Lo xs N) : bits N ≤ 32 * xs.length := by
  rcases Nat.eq_zero_or_pos N with rfl | hN
  · simp [bits]
  · have h1 := (bits_le hN).2
    have h2 := h.lt
    rw [pow32] at h2
    rcases Nat.lt_or_ge (32 * xs.length) (bits N) with h3 | h3
    · have : 2 ^ (32 * xs.length) ≤ 2 ^ (bits N - 1) := Nat.pow_le_pow_right (by omega) (by omega)
      omega
    · exact h3

def QuoInv (w : World) (N M K n : Nat) (av qv kv : Value) (wr : World) : Prop :=
  ∃ (k a q : Nat) (A C : Option Addr) (n1 c1 n2 c2 : Nat) (xs cs : List Nat), av = .slice A n1 c1 ∧ qv = .slice C n2 c2 ∧ Num wr A n1 c1 xs a ∧ Num wr C n2 c2 cs q ∧ n1 ≤ n ∧
    (∃ i : Int, kv = .int .i64 i ∧ i + 1 ≤ k ∧ (0 < k → (k : Int) ≤ i + 1) ∧ -33554432 ≤ i) ∧ k ≤ K ∧ QuoRel N M k a q ∧ Below w.heap.size w wr

theorem Num.drewN {w : World} {A : Option Addr} {n c N : Nat} {xs : List Nat} (h : Num w A n c xs N) (t : Nat) : Num (w.drewN t) A n c xs N := ⟨h.own.drewN t, h.dig⟩

/-- How Quo ends. -/
def QuoEnd (w : World) (N M L : Nat) (e : Ending) (w' : World) : Prop :=
  ∃ A n c xs B m d ys, e = .returned (.tuple #[.slice A n c, .slice B m d]) ∧ Num w' A n c xs (N / M) ∧ Num w' B m d ys (N % M) ∧ m ≤ L ∧ Below w.heap.size w w'

theorem len_of_lt {xs : List Nat} {N k : Nat} (h : Mth.Dig xs N) (hN : N < 2 ^ (32 * k)) : xs.length ≤ k := h.len_le (by rw [pow32]; exact hN)

set_option maxHeartbeats 1600000 in
theorem quo_any (w : World) (A B : Option Addr) (n m c d : Nat) (xs ys : List Nat) (N M : Nat) (hA : Num w A n c xs N) (hB : Num w B m d ys M) (hn : n ≤ 65536) (hm : m ≤ 65536) (hM : 0 < M) :
    Calls Tryd.prog 88 #[.slice A n c, .slice B m d] w (QuoEnd w N M n) := by
  have hbn := bits_le_len hA.dig.1
  have hbm := bits_le_len hB.dig.1
  rw [hA.own.len] at hbn
  rw [hB.own.len] at hbm
  have hst := QuoRel.start (N := N) hM
  have HST := Lib.hid hst
  have HA := Lib.hid hA
  have HB := Lib.hid hB
  clear hst hA hB
  obtain ⟨K, hK⟩ : ∃ K, K = bits N + 1 - bits M := ⟨_, rfl⟩
  have hKn : K ≤ bits N + 1 - bits M := by omega
  have hKm : bits N + 1 - bits M ≤ K := by omega
  have HK := Lib.hid hK
  clear hK
  go_enter Tryd.func88, Tryd.ntmps88
  go_wp2_with fail
  refine (size_any _ _ _ _ _ N HA.out (by omega)).mono ?_
  rintro e w' ⟨rfl, rfl⟩
  go_wp2_with fail
  refine (size_any _ _ _ _ _ M HB.out (by omega)).mono ?_
  rintro e w' ⟨rfl, rfl⟩
  go_wp2
  go_loopw [0, 6, 7] (fun av qv kv wr => QuoInv w N M K n av qv kv wr) (fun _ _ kv _ => (intOf kv + 1).toNat)
  case atStart => exact ⟨K, N, 0, _, _, _, _, _, _, _, [], rfl, rfl, HA.out, ⟨⟨rfl, .inl ⟨rfl, rfl⟩⟩, Mth.Dig.nil⟩, Nat.le_refl _, ⟨_, rfl, by omega, fun h => by omega, by omega⟩, Nat.le_refl _, by rw [HK.out]; exact HST.out, Below.refl _ _⟩
  case round =>
    obtain ⟨k, a, q, A1, C, n1, c1, n2, c2, xs1, cs, rfl, rfl, hnA, hnC, hn1, ⟨i, rfl, hi1, hi2, hi3⟩, hkK, hrel', hbel⟩ := hrel
    rcases Nat.eq_zero_or_pos k with hz | hpos
    · subst hz
      obtain ⟨e1, e2⟩ := hrel'.done
      have hi4 : i < 0 := by omega
      have HC := Lib.hid hnC
      have HA1 := Lib.hid hnA
      have HBEL := Lib.hid hbel
      have E1 := Lib.hid e1
      have E2 := Lib.hid e2
      clear hrel' e1 e2 hnA hnC hbel hi2
      go_wp2_with fail
      refine (norm_any _ 0 _ _ _ _ _ HA1.out.own HA1.out.dig.1).mono ?_
      rintro e w2 ⟨⟨j, hj, rfl, hown2, hd2⟩, rfl⟩
      have HE : Hid (QuoEnd w N M n (.returned (.tuple #[.slice C n2 c2, .slice A1 j c1])) wr) :=
        ⟨_, _, _, _, _, _, _, _, rfl, by rw [← E1.out]; exact HC.out, by rw [← E2.out]; exact ⟨hown2, hd2⟩, by omega, HBEL.out⟩
      clear hown2 hd2
      go_wp2
      go_ret2
      exact HE.out
    · obtain ⟨k, rfl⟩ : ∃ j, k = j + 1 := ⟨k - 1, by omega⟩
      obtain rfl : i = (k : Int) := by omega
      have HC := Lib.hid hnC
      have HA1 := Lib.hid hnA
      have HBEL := Lib.hid hbel
      have HREL := Lib.hid hrel'
      have HB1 := Lib.hid (HB.out.below hbel)
      have hsz := hbel.size
      clear hrel' hnA hnC hbel hi1 hi2
      go_wp2_with fail
      refine (left_any _ _ _ _ k _ M HB1.out (by omega) (by omega)).mono ?_
      rintro e w1 ⟨T, nt, ct, ts, rfl, htn, htl, hb1⟩
      have HTN := Lib.hid htn
      have HBL1 := Lib.hid hb1
      have hsz1 := hb1.size
      clear htn hb1
      go_wp2_with fail
      refine (comp_any _ _ _ _ _ _ _ _ _ (M * 2 ^ k) a HTN.out (HA1.out.below HBL1.out)).mono ?_
      rintro e w2 ⟨rfl, t, rfl⟩
      rcases Nat.lt_or_ge a (M * 2 ^ k) with hlt | hle
      · have hc : 1 ≤ cmpV (M * 2 ^ k) a := by rw [cmpV_gt hlt]; omega
        have HR2 := Lib.hid (HREL.out.stay hlt)
        have hbb := below_drewN (HBEL.out.trans (HBL1.out.mono hsz)) t
        have HBB := Lib.hid hbb
        have HA2 := Lib.hid ((HA1.out.below HBL1.out).drewN t)
        have HC2 := Lib.hid ((HC.out.below HBL1.out).drewN t)
        clear hlt hbb
        generalize cmpV (M * 2 ^ k) a = cv at hc
        go_wp2
        go_roundw
        case rel => exact ⟨k, a, q, _, _, _, _, _, _, _, _, rfl, rfl, HA2.out, HC2.out, hn1, ⟨_, rfl, by omega, fun h => by omega, by omega⟩, by omega, HR2.out, HBB.out⟩
        case measure => simp [intOf]
      · have hc : cmpV (M * 2 ^ k) a ≤ 0 := by
          unfold cmpV
          split
          · omega
          · split <;> omega
        have HR2 := Lib.hid (HREL.out.sub hle)
        have hn2 : n2 ≤ n := by
          rcases Nat.lt_or_ge n n2 with h | h
          · have h1 := Mth.Dig.lt_of_len HA.out.dig HC.out.dig (by rw [HA.out.own.len, HC.out.own.len]; exact h)
            have h2 := HREL.out.1
            have h3 : q * 1 ≤ q * M := Nat.mul_le_mul_left _ hM
            omega
          · exact h
        have HA2 := Lib.hid ((HA1.out.below HBL1.out).drewN t)
        have HC2 := Lib.hid ((HC.out.below HBL1.out).drewN t)
        have HT2 := Lib.hid (HTN.out.drewN t)
        have HLE := Lib.hid hle
        have hbb := below_drewN (HBEL.out.trans (HBL1.out.mono hsz)) t
        have HBB := Lib.hid hbb
        have hsz2 := hbb.size
        clear hle hbb
        generalize cmpV (M * 2 ^ k) a = cv at hc
        go_wp2_with fail
        refine (minus_any _ _ _ _ _ _ _ _ _ a (M * 2 ^ k) HA2.out HT2.out (by omega) HLE.out).mono ?_
        rintro e w3 ⟨D, n3, c3, ds, rfl, hdn, hdl, hb3⟩
        have HDN := Lib.hid hdn
        have HB3 := Lib.hid hb3
        have hsz3 := hb3.size
        clear hdn hb3
        go_wp2_with fail
        refine (word_any _ 1 (by omega)).mono ?_
        rintro e w4 ⟨O, n4, c4, os4, rfl, hon, hol, hb4⟩
        have HON := Lib.hid hon
        have HB4 := Lib.hid hb4
        have hsz4 := hb4.size
        clear hon hb4
        go_wp2_with fail
        refine (left_any _ _ _ _ k _ 1 HON.out (by omega) (by omega)).mono ?_
        rintro e w5 ⟨P, n5, c5, os5, rfl, hpn, hpl, hb5⟩
        have HPN := Lib.hid hpn
        have HB5 := Lib.hid hb5
        have hsz5 := hb5.size
        clear hpn hb5
        go_wp2_with fail
        refine (plus_any _ _ _ _ _ _ _ _ _ q (1 * 2 ^ k) (((HC2.out.below HB3.out).below HB4.out).below HB5.out) HPN.out (by omega) (by omega)).mono ?_
        rintro e w6 ⟨R, n6, c6, os6, rfl, hrn, hrl, hb6⟩
        have HRN := Lib.hid hrn
        have HB6 := Lib.hid hb6
        clear hrn hb6
        have HALL : Hid (Below w.heap.size w w6) := ((((HBB.out.trans (HB3.out.mono hsz2)).trans (HB4.out.mono (by omega))).trans (HB5.out.mono (by omega))).trans (HB6.out.mono (by omega)))
        have HD6 := Lib.hid (((HDN.out.below HB4.out).below HB5.out).below HB6.out)
        clear hsz3 hsz4 hsz5
        go_wp2
        go_roundw
        case rel => exact ⟨k, _, _, _, _, _, _, _, _, _, _, rfl, rfl, HD6.out, HRN.out, by omega, ⟨_, rfl, by omega, fun h => by omega, by omega⟩, by omega, HR2.out, HALL.out⟩
        case measure => simp [intOf]
end Go.Proofs.YtafboimlchjnaaaDoor
