/- The law RateBursts: its walk, whatever the rate. -/
import Derived.Test.YtafboimlchjnaaaDoorBurst
import Derived.Test.YtafboimlchjnaaaDoorNeverW
namespace Go.Proofs.YtafboimlchjnaaaDoor
open Go.RowKit
set_option maxRecDepth 100000
set_option linter.unusedVariables false

theorem told_minus (p : Nat) (hz : Int) : toldV p 9223372036854775808 hz = toldV p 0 hz := by
  unfold toldV
  have e1 : nanB 9223372036854775808 = nanB 0 := by decide
  have e2 : lt0B 9223372036854775808 = lt0B 0 := by decide
  have e3 : infB 9223372036854775808 = infB 0 := by decide
  rw [e1, e2, e3]
theorem ofV_minus (p : Nat) (hz : Int) : ofV p 9223372036854775808 hz = ofV p 0 hz := by
  rw [ofV_nil (by decide), ofV_nil (b := 0) rfl, told_minus]
theorem rateBursts_walk (p hz n : Int) (w : World) (wp : (Lit.int .u64 p).wf = true) (wh : (Lit.int .i64 hz).wf = true) (wn : (Lit.int .u16 n).wf = true) (hT : Tab w) :
    Calls Tryd.prog 14 #[.int .u64 p, .int .i64 hz, .int .u16 n] w (ValEnd w (.bool true)) := by
  have b1 := bounds_u64 wp
  have b2 := bounds_i64 wh
  have b3 : 0 ≤ n ∧ n ≤ 65535 := by simpa [Lit.wf, IntKind.min, IntKind.max, IntKind.signed, IntKind.bits] using wn
  obtain ⟨p, rfl⟩ : ∃ k : Nat, p = (k : Int) := ⟨p.toNat, by omega⟩
  obtain ⟨n, rfl⟩ : ∃ k : Nat, n = (k : Int) := ⟨n.toNat, by omega⟩
  have hp : p ≤ 18446744073709551615 := by omega
  have hn : n < 65536 := by omega
  have HA : ∀ w', Below w.heap.size w w' → Calls Tryd.prog 43 #[] w' (ValEnd w' (.bool true)) := fun w' h => awake4_any w' (hT.below h)
  have HO : ∀ w, Calls Tryd.prog 40 #[.int .u64 (p : Int), .int .u64 0, .int .i64 hz] w (ValEnd w (RateV p 0 hz)) := fun w => of4_any w p 0 hz
  have HP : ∀ (b : Nat), b ≤ 18446744073709551615 → ∀ w', Below w.heap.size w w' → Calls Tryd.prog 41 #[RateV p b hz] w' (LimE w' (ofV p b hz).1 (ofV p b hz).2.1 (ofV p b hz).2.2) := fun b hb w' h => of_any w' p b hz hp hb (hT.below h)
  have HC := copysign_any
  have hv := ofV_nil (p := p) (b := 0) (hz := hz) rfl
  have HP0 := HP 0 (by omega)
  have HP1 := HP 9223372036854775808 (by omega)
  rw [ofV_minus] at HP1
  by_cases ht : toldV p 0 hz = 0
  · rw [if_neg (by omega)] at hv
    by_cases hc : capB (gapT p hz.toNat) = false
    · rw [if_pos hc] at hv
      rw [hv] at HP0 HP1
      exact rateBursts_e w p hz 5 n (Lib.hid HA) (Lib.hid HO) (Lib.hid HC) (Lib.hid HP0) (Lib.hid HP1) (by decide)
    · rw [if_neg hc] at hv
      obtain ⟨z1, z2, p1, p2, pn, _⟩ := told_zero hp (by omega) ht
      have hlt : p < 9223372036854775808 := by have := of_decide_eq_false pn; omega
      have hsz : szB p = p := Nat.mod_eq_of_lt hlt
      rw [hsz] at p1 p2
      have hcap : gapT p hz.toNat ≤ 4611686018427387903 := of_decide_eq_true (by simpa [capB] using hc)
      have g1 : 1 ≤ gapT p hz.toNat := gapT_one p2 (by omega) (by omega)
      rw [hv] at HP0 HP1
      have hs1 : szB (nB n) = nB n := Nat.mod_eq_of_lt (by have := nB_lt hn; omega)
      have hl2 := (ex_lt (n := 2 * n + 1) (j := 1) (by omega) (by omega)).1
      have hs2 := sz_ex (n := 2 * n + 1) (j := 1) (by omega) (by omega)
      have k1 := nB_lt hn
      have O1 : ofV p (nB n) hz = if capB (n * gapT p hz.toNat) = false then (0, 0, 5) else (((gapT p hz.toNat : Nat) : Int), ((n * gapT p hz.toNat : Nat) : Int), 0) := by
        unfold ofV
        rw [told_good z1 z2 (by rw [hsz]; exact p1) (by rw [hsz]; exact p2) pn (by rw [hs1]; exact k1) (.inr (decide_eq_false (by omega))), if_neg (by simp), if_neg hc, ahead_n hn]
      have O2 : ofV p (exB (2 * n + 1) 1) hz = if capB (n * gapT p hz.toNat + gapT p hz.toNat / 2) = false then (0, 0, 5) else (((gapT p hz.toNat : Nat) : Int), ((n * gapT p hz.toNat + gapT p hz.toNat / 2 : Nat) : Int), 0) := by
        unfold ofV
        rw [told_good z1 z2 (by rw [hsz]; exact p1) (by rw [hsz]; exact p2) pn (by rw [hs2]; exact hl2) (.inr (decide_eq_false (by omega))), if_neg (by simp), if_neg hc, ahead_h hn]
      have HL := HP (nB n) (by omega)
      have HM := HP (exB (2 * n + 1) 1) (by omega)
      rw [O1] at HL
      rw [O2] at HM
      have HF := float_nB hn
      have HAD : ∀ w, (binOp .add 23 (.float .f64 (nB n)) (.float .f64 4602678819172646912)).run Tryd.prog w = .ok (.float .f64 (exB (2 * n + 1) 1)) w := fun w => run_float_arith w .add 23 .f64 _ _ _ (add_half hn)
      generalize gapT p hz.toNat = T at *
      have hnt : ((n * T : Nat) : Int) = (n : Int) * (T : Int) := by simp
      by_cases h1 : capB (n * T) = false
      · rw [if_pos h1] at HL
        have hgt : ¬ n * T ≤ 4611686018427387903 := of_decide_eq_false h1
        have hn0 : 0 < n := by
          rcases Nat.eq_zero_or_pos n with e | e
          · rw [e, Nat.zero_mul] at hgt; omega
          · exact e
        refine rateBursts_g w p (nB n) hz T n (Lib.hid HA) (Lib.hid HO) (Lib.hid HC) (Lib.hid HP0) (Lib.hid HP1) (by omega) (by omega) (by omega) (by omega) HF (Lib.hid HL) (by omega) ?_
        refine Int.ediv_lt_of_lt_mul (by omega) ?_
        rw [Int.mul_comm, ← hnt]; omega
      · rw [if_neg h1] at HL
        have hle : n * T ≤ 4611686018427387903 := of_decide_eq_true (by simpa [capB] using h1)
        have HQ : ∀ w, Calls Tryd.prog 47 #[.agg #[.int .i64 (T : Int), .int .i64 ((n : Int) * (T : Int))]] w (ValEnd w (.tuple #[.int .i64 ((n : Int) + 1), .int .i64 0])) := fun w => by
          have := onceP_any w T ((n : Int) * (T : Int))
          unfold dwithV at this
          rw [← hnt, checkV_ok (by omega) (isTick_iff.2 ⟨by omega, by omega⟩) (isTick_iff.2 ⟨by omega, by omega⟩), if_neg (by simp [isTick_iff.2])] at this
          rw [← hnt]
          have e : withV (T : Int).toNat ((n * T : Nat) : Int).toNat (0 : Int).toNat = n + 1 := by
            unfold withV
            rw [Int.toNat_natCast, Int.toNat_natCast]
            show (0 + n * T) / T + 1 = n + 1
            rw [Nat.zero_add, Nat.mul_div_cancel _ (by omega)]
          rw [e] at this
          exact this
        rw [hnt] at HL
        by_cases h2 : capB (n * T + T / 2) = false
        · rw [if_pos h2] at HM
          exact rateBursts_i w p (nB n) _ hz T n (Lib.hid HA) (Lib.hid HO) (Lib.hid HC) (Lib.hid HP0) (Lib.hid HP1) (by omega) (by omega) (by omega) (by omega) HF (Lib.hid HL) (Lib.hid HQ) (by omega) (by omega) (Lib.hid HAD) (Lib.hid HM)
        · rw [if_neg h2] at HM
          have hle2 : n * T + T / 2 ≤ 4611686018427387903 := of_decide_eq_true (by simpa [capB] using h2)
          exact rateBursts_k w p (nB n) _ hz T n ((n * T + T / 2 : Nat) : Int) (Lib.hid HA) (Lib.hid HO) (Lib.hid HC) (Lib.hid HP0) (Lib.hid HP1) (by omega) (by omega) (by omega) (by omega) HF (Lib.hid HL) (Lib.hid HQ) (by omega) (by omega) (Lib.hid HAD) (Lib.hid HM) (by omega) (by omega) (by omega)
  · rw [if_pos ht] at hv
    rw [hv] at HP0 HP1
    exact rateBursts_e w p hz _ n (Lib.hid HA) (Lib.hid HO) (Lib.hid HC) (Lib.hid HP0) (Lib.hid HP1) (bne_iff_ne.2 ht)
end Go.Proofs.YtafboimlchjnaaaDoor
