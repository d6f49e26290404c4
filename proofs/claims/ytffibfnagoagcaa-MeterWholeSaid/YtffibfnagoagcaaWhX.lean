/- Floats that are whole numbers: sums, least, greatest, figures of their lists; lists of int32 that come in. -/
import Derived.Test.YtffibfnagoagcaaMetA
import Derived.Test.YtffibfnagoagcaaMetMg
import Derived.Test.YtffibfnagoagcaaMetOf
import Derived.Test.YtffibfnagoagcaaMetBd
import Derived.WalkKit
import Derived.ProofKit
import Derived.OpenShut
import Derived.SizedLaws

/- Floats that are whole numbers: their sums and differences are exact. -/
namespace Go.Proofs.Ytffibfnagoagcaa
open Ieee
set_option maxRecDepth 100000

theorem ws_ex {N : Nat} (h0 : 0 < N) (h : N < 9007199254740992) : ∃ s, 0 < s ∧ s < 9218868437227405312 ∧ WS s = N * 2 ^ cE := by
  have l1 : N < 2 ^ (N.log2 + 1) := Nat.lt_log2_self
  have l2 : 2 ^ N.log2 ≤ N := Nat.log2_self_le (by omega)
  generalize hl : N.log2 = l at *
  have hl53 : l < 53 := by
    rcases Nat.lt_or_ge l 53 with q | q
    · exact q
    · exfalso
      have : 2 ^ 53 ≤ 2 ^ l := Nat.pow_le_pow_right (by omega) q
      have e : (2 : Nat) ^ 53 = 9007199254740992 := by decide
      omega
  have e1 : 2 ^ (l + 1) * 2 ^ (52 - l) = 9007199254740992 := by rw [← Nat.pow_add, show l + 1 + (52 - l) = 53 by omega]
  have e2 : 2 ^ l * 2 ^ (52 - l) = 4503599627370496 := by rw [← Nat.pow_add, show l + (52 - l) = 52 by omega]
  have m1 : N * 2 ^ (52 - l) < 9007199254740992 := by rw [← e1]; exact Nat.mul_lt_mul_of_pos_right l1 (pow_pos2 _)
  have m2 : 4503599627370496 ≤ N * 2 ^ (52 - l) := by rw [← e2]; exact Nat.mul_le_mul_right _ l2
  generalize hm : N * 2 ^ (52 - l) = m at *
  have hp : pS ((1022 + l) * 4503599627370496 + m) = 1022 + l := by unfold pS; omega
  have hms : manS ((1022 + l) * 4503599627370496 + m) = m := by unfold manS; rw [if_neg (by omega)]; omega
  refine ⟨(1022 + l) * 4503599627370496 + m, by omega, by omega, ?_⟩
  unfold WS
  rw [hp, hms, ← hm, Nat.mul_assoc, ← Nat.pow_add, cE_eq, show 52 - l + (1022 + l) = 1074 by omega]
/-- The float b is the whole number z. -/
structure Wh (z : Int) (b : Nat) : Prop where
  le : b ≤ 18446744073709551615
  fin : szB b < 9218868437227405312
  val : VB b = z * ((2 ^ cE : Nat) : Int)
theorem Wh.nan {z : Int} {b : Nat} (h : Wh z b) : nanB b = false := decide_eq_false (by have := h.fin; omega)
theorem Wh.fnB {z : Int} {b : Nat} (h : Wh z b) : fnB b = true := decide_eq_true h.fin
theorem Wh.can {z : Int} {b : Nat} (h : Wh z b) : Wh z (canB b) := by rw [can_fin h.nan]; exact h
theorem word_sz {neg : Bool} {s : Nat} (hs : s < 9218868437227405312) : szB (Ieee.double.word neg s) = s ∧ negB (Ieee.double.word neg s) = neg ∧ Ieee.double.word neg s ≤ 18446744073709551615 := by
  cases neg
  · rw [word_pos]
    exact ⟨by unfold szB; omega, decide_eq_false (by omega), by omega⟩
  · rw [word_neg]
    exact ⟨by unfold szB; omega, decide_eq_true (by omega), by omega⟩
theorem wh_word {neg : Bool} {s N : Nat} (hs : s < 9218868437227405312) (h : WS s = N * 2 ^ cE) : Wh (if neg then -(N : Int) else N) (Ieee.double.word neg s) := by
  obtain ⟨h1, h2, h3⟩ := word_sz (neg := neg) hs
  refine ⟨h3, by rw [h1]; exact hs, ?_⟩
  unfold VB
  rw [h1, h2, h]
  cases neg
  · simp only [Bool.false_eq_true, if_false]; push_cast; rfl
  · simp only [if_true]; push_cast; rw [Int.neg_mul]
theorem upDn {mag N c : Nat} (h : mag * 2 ^ c = N * 2 ^ cE) : upN mag ((c : Int) - 1074) * 2 ^ cE = N * 2 ^ cE * dnN ((c : Int) - 1074) := by
  have hc := cE_eq
  unfold upN dnN
  rcases Nat.lt_or_ge c 1074 with q | q
  · rw [show ((c : Int) - 1074).toNat = 0 by omega, show (-((c : Int) - 1074)).toNat = 1074 - c by omega, Nat.pow_zero, Nat.mul_one, ← h, Nat.mul_assoc, ← Nat.pow_add, show c + (1074 - c) = cE by omega]
  · rw [show ((c : Int) - 1074).toNat = c - 1074 by omega, show (-((c : Int) - 1074)).toNat = 0 by omega, Nat.pow_zero, Nat.mul_one, ← h, Nat.mul_assoc, ← Nat.pow_add, show c - 1074 + cE = c by omega]
/-- The sum of two numbers, written: one of them perhaps turned. -/
theorem sum_wh {s t : Nat} {m n : Bool} {a b : Int} (ha : (if m then -(WS s : Int) else (WS s : Int)) = a * ((2 ^ cE : Nat) : Int)) (hb : (if n then -(WS t : Int) else (WS t : Int)) = b * ((2 ^ cE : Nat) : Int))
    (hab : (a + b).natAbs < 9007199254740992) : ∃ r, ((Datum.number m (manS s) (expS s)).sum (Datum.number n (manS t) (expS t))).map Ieee.double.write = some r ∧ Wh (a + b) r := by
  have hpw : 0 < 2 ^ cE := pow_pos2 _
  simp only [Datum.sum, expS_pS]
  have e1 : ((pS s : Int) - 1074 - min ((pS s : Int) - 1074) ((pS t : Int) - 1074)).toNat = pS s - min (pS s) (pS t) := by omega
  have e2 : ((pS t : Int) - 1074 - min ((pS s : Int) - 1074) ((pS t : Int) - 1074)).toNat = pS t - min (pS s) (pS t) := by omega
  have e3 : min ((pS s : Int) - 1074) ((pS t : Int) - 1074) = ((min (pS s) (pS t) : Nat) : Int) - 1074 := by omega
  have w1 := signed_W m s (min (pS s) (pS t)) (Nat.min_le_left _ _)
  have w2 := signed_W n t (min (pS s) (pS t)) (Nat.min_le_right _ _)
  rw [e1, e2, e3]
  rw [ha] at w1
  rw [hb] at w2
  generalize signed m (manS s) (pS s - min (pS s) (pS t)) = x at *
  generalize signed n (manS t) (pS t - min (pS s) (pS t)) = y at *
  generalize min (pS s) (pS t) = c at *
  have hx : (x + y) * ((2 ^ c : Nat) : Int) = (a + b) * ((2 ^ cE : Nat) : Int) := by rw [Int.add_mul, Int.add_mul, w1, w2]
  have hpc : 0 < 2 ^ c := pow_pos2 c
  have hpcZ : (0 : Int) < ((2 ^ c : Nat) : Int) := by omega
  have hpeZ : (0 : Int) < ((2 ^ cE : Nat) : Int) := by omega
  have hnat : (x + y).natAbs * 2 ^ c = (a + b).natAbs * 2 ^ cE := by
    have := congrArg Int.natAbs hx
    rwa [Int.natAbs_mul, Int.natAbs_mul, Int.natAbs_natCast, Int.natAbs_natCast] at this
  refine ⟨_, rfl, ?_⟩
  show Wh (a + b) (Ieee.double.nearest _ _ _)
  by_cases h0 : x + y = 0
  · rw [h0, Int.zero_mul] at hx
    have hz : a + b = 0 := by
      rcases Int.mul_eq_zero.1 hx.symm with q | q
      · exact q
      · omega
    rw [h0, hz]
    unfold Format.nearest
    rw [if_pos rfl]
    have := wh_word (neg := if (0 : Int) = 0 then (m && n) else decide ((0 : Int) < 0)) (s := 0) (N := 0) (by omega) (by rw [WS_zero, Nat.zero_mul])
    simpa using this
  · have hN : 0 < (a + b).natAbs := by
      rcases Nat.eq_zero_or_pos (a + b).natAbs with q | q
      · rw [q, Nat.zero_mul] at hnat
        rcases Nat.mul_eq_zero.1 hnat with q2 | q2 <;> omega
      · exact q
    obtain ⟨r, _, r2, r3⟩ := ws_ex hN hab
    rw [if_neg h0, nearest_S _ (by omega) r2 (by rw [r3]; exact upDn hnat)]
    have hW := wh_word (neg := decide (x + y < 0)) r2 r3
    have hsg : (if decide (x + y < 0) = true then -(((a + b).natAbs : Nat) : Int) else (((a + b).natAbs : Nat) : Int)) = a + b := by
      by_cases hlt : x + y < 0
      · rw [decide_eq_true hlt, if_pos rfl]
        have : (a + b) * ((2 ^ cE : Nat) : Int) < 0 := by rw [← hx]; exact Int.mul_neg_of_neg_of_pos hlt hpcZ
        have : a + b < 0 := by
          rcases Int.lt_or_le (a + b) 0 with q | q
          · exact q
          · have := Int.mul_nonneg q (Int.le_of_lt hpeZ); omega
        omega
      · rw [decide_eq_false hlt, if_neg (by simp)]
        have : 0 ≤ (a + b) * ((2 ^ cE : Nat) : Int) := by rw [← hx]; exact Int.mul_nonneg (by omega) (Int.le_of_lt hpcZ)
        have : 0 ≤ a + b := by
          rcases Int.lt_or_le (a + b) 0 with q | q
          · have := Int.mul_neg_of_neg_of_pos q hpeZ; omega
          · exact q
        omega
    rw [hsg] at hW
    exact hW
section
variable {a b : Int} {x y : Nat}
theorem Wh.pos (h : Wh a x) : (if negB x = true then -(WS (szB x) : Int) else (WS (szB x) : Int)) = a * ((2 ^ cE : Nat) : Int) := h.val
theorem Wh.turned (h : Wh a x) : (if (!negB x) = true then -(WS (szB x) : Int) else (WS (szB x) : Int)) = -a * ((2 ^ cE : Nat) : Int) := by
  have := h.val
  unfold VB at this
  rw [Int.neg_mul, ← this]
  cases negB x <;> simp
theorem fop_some {op : BinOp} {r : Nat} (h : floatBits op .f64 x y = some r) : fop op x y = canB r := by unfold fop; rw [h]; rfl
theorem Wh.add (h : Wh a x) (k : Wh b y) (hab : (a + b).natAbs < 9007199254740992) : Wh (a + b) (fop .add x y) := by
  obtain ⟨r, h1, h2⟩ := sum_wh h.pos k.pos hab
  have e : floatBits .add .f64 x y = some r := by
    show Ieee.double.add x y = some r
    unfold Format.add
    rw [read_fin h.le h.fin, read_fin k.le k.fin]
    exact h1
  rw [fop_some e]
  exact h2.can
theorem Wh.sub (h : Wh a x) (k : Wh b y) (hab : (a - b).natAbs < 9007199254740992) : Wh (a - b) (fop .sub x y) := by
  obtain ⟨r, h1, h2⟩ := sum_wh (n := !negB y) h.pos k.turned (by rwa [← Int.sub_eq_add_neg])
  have e : floatBits .sub .f64 x y = some r := by
    show Ieee.double.sub x y = some r
    unfold Format.sub
    rw [read_fin h.le h.fin, read_fin k.le k.fin]
    exact h1
  rw [fop_some e]
  rw [← Int.sub_eq_add_neg] at h2
  exact h2.can
/-- Nothing is lost. -/
theorem Wh.miss (h : Wh a x) (k : Wh b y) (ha : a.natAbs < 4503599627370496) (hb : b.natAbs < 4503599627370496) : Wh 0 (missC x y (fop .add x y)) := by
  have hs := h.add k (by omega)
  unfold missC
  split
  · have h1 := h.sub hs (by omega)
    have h2 := h1.add k (by omega)
    have e : a - (a + b) + b = 0 := by omega
    rwa [e] at h2
  · have h1 := k.sub hs (by omega)
    have h2 := h1.add h (by omega)
    have e : b - (a + b) + a = 0 := by omega
    rwa [e] at h2
theorem wh_int {z : Int} (h : z.natAbs < 9007199254740992) : Wh z (floatOfInt FloatKind.f64 z) := by
  show Wh z (Ieee.double.nearest (decide (z < 0)) z.natAbs 0)
  rcases Nat.eq_zero_or_pos z.natAbs with q | q
  · unfold Format.nearest
    rw [if_pos q]
    have := wh_word (neg := decide (z < 0)) (s := 0) (N := 0) (by omega) (by rw [WS_zero, Nat.zero_mul])
    have e : z = 0 := by omega
    subst e
    simpa using this
  · obtain ⟨r, _, r2, r3⟩ := ws_ex q h
    rw [nearest_S _ q r2 (by
      rw [r3]
      unfold upN dnN
      show z.natAbs * 2 ^ 0 * 2 ^ cE = z.natAbs * 2 ^ cE * 2 ^ 0
      rw [Nat.pow_zero, Nat.mul_one, Nat.mul_one])]
    have hW := wh_word (neg := decide (z < 0)) r2 r3
    by_cases hz : z < 0
    · rw [decide_eq_true hz] at hW ⊢
      rw [if_pos rfl] at hW
      have e : -((z.natAbs : Nat) : Int) = z := by omega
      rwa [e] at hW
    · rw [decide_eq_false hz] at hW ⊢
      rw [if_neg (by simp)] at hW
      have e : ((z.natAbs : Nat) : Int) = z := by omega
      rwa [e] at hW
end
end Go.Proofs.Ytffibfnagoagcaa


/- Figures of whole numbers: what they hold after Add and Merge. -/
namespace Go.Proofs.Ytffibfnagoagcaa
open Ieee
set_option maxRecDepth 100000
set_option linter.unusedVariables false

theorem kind_ne4 {b : Nat} (h : szB b ≤ 9218868437227405312) : kindB b ≠ 4 := by
  unfold kindB kindS
  repeat' split
  all_goals omega
theorem idx_pos {b : Nat} (h : szB b ≤ 9218868437227405312) (hn : negB b = false) : idxB b = 9218868437227405313 + szB b := by
  unfold idxB; rw [if_neg (kind_ne4 h), hn]; rfl
theorem idx_neg {b : Nat} (h : szB b ≤ 9218868437227405312) (hn : negB b = true) : idxB b = 9218868437227405312 - szB b := by
  unfold idxB; rw [if_neg (kind_ne4 h), hn]; rfl
section
variable {a b : Int} {x y : Nat}
theorem Wh.le_of (h : Wh a x) (k : Wh b y) (hi : idxB x ≤ idxB y) : a ≤ b := by
  have hx := h.fin
  have hy := k.fin
  have hpw := pow_pos2 cE
  have hpz : (0 : Int) < ((2 ^ cE : Nat) : Int) := by omega
  have hv : VB x ≤ VB y := by
    unfold VB
    rcases nx : negB x with _ | _ <;> rcases ny : negB y with _ | _
    · rw [idx_pos (by omega) nx, idx_pos (by omega) ny] at hi
      have := WS_le.2 (show szB x ≤ szB y by omega)
      simp only [Bool.false_eq_true, if_false]; omega
    · rw [idx_pos (by omega) nx, idx_neg (by omega) ny] at hi
      omega
    · simp only [Bool.false_eq_true, if_false, if_true]; omega
    · rw [idx_neg (by omega) nx, idx_neg (by omega) ny] at hi
      have := WS_le.2 (show szB y ≤ szB x by omega)
      simp only [if_true]; omega
  rw [h.val, k.val] at hv
  exact Int.le_of_mul_le_mul_right hv hpz
theorem Wh.least (h : Wh a x) (k : Wh b y) : Wh (min a b) (leastB x y) := by
  unfold leastB ordB
  by_cases h1 : idxB y < idxB x
  · rw [if_pos h1, if_pos (by omega)]
    have := k.le_of h (by omega)
    rw [Int.min_eq_right this]; exact k
  · have := h.le_of k (by omega)
    rw [if_neg h1, Int.min_eq_left this]
    split
    · split at * <;> omega
    · exact h
theorem Wh.most (h : Wh a x) (k : Wh b y) : Wh (max a b) (mostB x y) := by
  have hx := h.fin
  have hy := k.fin
  unfold mostB ordB
  rw [if_neg (kind_ne4 (by omega)), if_neg (kind_ne4 (by omega))]
  by_cases h1 : idxB x < idxB y
  · have := h.le_of k (by omega)
    rw [if_pos h1, if_neg (by omega), Int.max_eq_right this]; exact k
  · have := k.le_of h (by omega)
    rw [if_neg h1, Int.max_eq_left this]
    by_cases h2 : idxB y < idxB x
    · rw [if_pos h2, if_pos (by omega)]; exact h
    · rw [if_neg h2, if_neg (by omega)]
      have h3 := h.le_of k (by omega)
      have e : a = b := by omega
      rw [e]; exact k
theorem Wh.idx (h : Wh a x) : 0 < idxB x ∧ idxB x < 18437736874454810625 := by
  have hx := h.fin
  rcases nx : negB x with _ | _
  · rw [idx_pos (by omega) nx]; omega
  · rw [idx_neg (by omega) nx]; omega
theorem Wh.least0 (h : Wh a x) : leastB 9218868437227405312 x = x := by
  have e : idxB 9218868437227405312 = 18437736874454810625 := by decide
  unfold leastB ordB
  rw [e, if_pos h.idx.2, if_pos (by omega)]
theorem Wh.most0 (h : Wh a x) : mostB 18442240474082181120 x = x := by
  have e : idxB 18442240474082181120 = 0 := by decide
  have hx := h.fin
  unfold mostB ordB
  rw [e, if_neg (by decide), if_neg (kind_ne4 (by omega)), if_pos h.idx.1, if_neg (by omega)]
end
def sumZ (zs : List Int) : Int := zs.foldl (· + ·) 0
def lowZ (zs : List Int) : Int := zs.foldl min 1073741824
def highZ (zs : List Int) : Int := zs.foldl max (-1073741824)
theorem sumZ_snoc (zs : List Int) (z : Int) : sumZ (zs ++ [z]) = sumZ zs + z := by unfold sumZ; rw [List.foldl_append]; rfl
theorem lowZ_snoc (zs : List Int) (z : Int) : lowZ (zs ++ [z]) = min (lowZ zs) z := by unfold lowZ; rw [List.foldl_append]; rfl
theorem highZ_snoc (zs : List Int) (z : Int) : highZ (zs ++ [z]) = max (highZ zs) z := by unfold highZ; rw [List.foldl_append]; rfl
theorem fold_add (zs : List Int) : ∀ c : Int, zs.foldl (· + ·) c = c + sumZ zs := by
  unfold sumZ
  induction zs with
  | nil => intro c; simp
  | cons a t ih => intro c; simp only [List.foldl_cons]; rw [ih (c + a), ih (0 + a)]; omega
theorem sumZ_app (xs ys : List Int) : sumZ (xs ++ ys) = sumZ xs + sumZ ys := by
  conv => lhs; unfold sumZ
  rw [List.foldl_append, fold_add]; rfl
theorem fold_min (zs : List Int) : ∀ c : Int, c ≤ 1073741824 → zs.foldl min c = min c (lowZ zs) := by
  unfold lowZ
  induction zs with
  | nil => intro c hc; simp; omega
  | cons a t ih => intro c hc; simp only [List.foldl_cons]; rw [ih (min c a) (by omega), ih (min 1073741824 a) (by omega)]; omega
theorem fold_max (zs : List Int) : ∀ c : Int, -1073741824 ≤ c → zs.foldl max c = max c (highZ zs) := by
  unfold highZ
  induction zs with
  | nil => intro c hc; simp; omega
  | cons a t ih => intro c hc; simp only [List.foldl_cons]; rw [ih (max c a) (by omega), ih (max (-1073741824) a) (by omega)]; omega
theorem lowZ_le (zs : List Int) : lowZ zs ≤ 1073741824 := by
  have := fold_min zs 1073741824 (by omega)
  have e : lowZ zs = zs.foldl min 1073741824 := rfl
  omega
theorem highZ_ge (zs : List Int) : -1073741824 ≤ highZ zs := by
  have := fold_max zs (-1073741824) (by omega)
  have e : highZ zs = zs.foldl max (-1073741824) := rfl
  omega
theorem lowZ_app (xs ys : List Int) : lowZ (xs ++ ys) = min (lowZ xs) (lowZ ys) := by
  conv => lhs; unfold lowZ
  rw [List.foldl_append]
  exact fold_min ys _ (lowZ_le xs)
theorem highZ_app (xs ys : List Int) : highZ (xs ++ ys) = max (highZ xs) (highZ ys) := by
  conv => lhs; unfold highZ
  rw [List.foldl_append]
  exact fold_max ys _ (highZ_ge xs)
def SmZ (zs : List Int) : Prop := ∀ z ∈ zs, z.natAbs < 1048576
theorem SmZ.sum {zs : List Int} (h : SmZ zs) : (sumZ zs).natAbs ≤ zs.length * 1048576 := by
  induction zs with
  | nil => simp [sumZ]
  | cons a t ih =>
    have h1 := ih (fun z hz => h z (List.mem_cons_of_mem _ hz))
    have h2 := h a (List.mem_cons_self ..)
    have e : sumZ (a :: t) = a + sumZ t := by
      have := fold_add t (0 + a)
      show t.foldl (· + ·) (0 + a) = _
      omega
    rw [e, List.length_cons]
    omega
/-- Figures of whole numbers. -/
structure WF (zs : List Int) (bad : Int) (c : MV) : Prop where
  n : c.n = (zs.length : Nat)
  bad : c.bad = bad
  sum : Wh (sumZ zs) c.sum
  lost : Wh 0 c.lost
  low : if zs = [] then c.low = 9218868437227405312 else Wh (lowZ zs) c.low
  high : if zs = [] then c.high = 18442240474082181120 else Wh (highZ zs) c.high
theorem wh0 : Wh 0 0 := ⟨by omega, by decide, by decide +kernel⟩
theorem wh0n : Wh 0 9223372036854775808 := ⟨by omega, by decide, by decide +kernel⟩
theorem WF.new : WF [] 0 newM.can := ⟨rfl, rfl, wh0n.can, wh0.can, by rw [if_pos rfl]; decide, by rw [if_pos rfl]; decide⟩
section
variable {zs ys : List Int} {bad bad' : Int} {c d : MV} {z : Int} {x : Nat}
theorem WF.nan (h : WF zs bad c) (hx : nanB x = true) : WF zs (bad + 1) (addC c x) := by
  unfold addC
  rw [if_pos hx]
  exact ⟨h.n, by show c.bad + 1 = _; rw [h.bad], h.sum, h.lost, h.low, h.high⟩
theorem WF.add (h : WF zs bad c) (k : Wh z x) (hs : SmZ zs) (hl : zs.length ≤ 4096) (hz : z.natAbs < 1048576) : WF (zs ++ [z]) bad (addC c x) := by
  have hb := hs.sum
  have h1 := h.sum.add k (by omega)
  have hm := h.sum.miss k (by omega) (by omega)
  unfold addC
  rw [if_neg (by rw [k.nan]; simp)]
  refine ⟨?_, h.bad, ?_, ?_, ?_, ?_⟩
  · show c.n + 1 = _; rw [h.n, List.length_append]; simp
  · rw [sumZ_snoc]; exact h1
  · show Wh 0 (if _ then _ else _)
    rw [if_pos h1.fnB]
    exact h.lost.add hm (by decide)
  · rw [if_neg (by simp), lowZ_snoc]
    have hq := h.low
    by_cases e : zs = []
    · rw [if_pos e] at hq
      show Wh _ (canB (leastB c.low x))
      rw [hq, k.least0, e]
      have e2 : min (lowZ []) z = z := by show min 1073741824 z = z; omega
      rw [e2]; exact k.can
    · rw [if_neg e] at hq
      exact (hq.least k).can
  · rw [if_neg (by simp), highZ_snoc]
    have hq := h.high
    by_cases e : zs = []
    · rw [if_pos e] at hq
      show Wh _ (canB (mostB c.high x))
      rw [hq, k.most0, e]
      have e2 : max (highZ []) z = z := by show max (-1073741824) z = z; omega
      rw [e2]; exact k.can
    · rw [if_neg e] at hq
      exact (hq.most k).can
theorem WF.fig (h : WF zs bad c) (k : WF ys bad' d) (hs : SmZ zs) (ht : SmZ ys) (hl : zs.length ≤ 4096) (hk : ys.length ≤ 4096) :
    WF (zs ++ ys) (bad + bad') { figC c d with n := c.n + d.n, bad := c.bad + d.bad } := by
  have b1 := hs.sum
  have b2 := ht.sum
  have h1 := h.sum.add k.sum (by omega)
  have hm := h.sum.miss k.sum (by omega) (by omega)
  have en : c.n + d.n = (((zs ++ ys).length : Nat) : Int) := by rw [h.n, k.n, List.length_append]; omega
  have eb : c.bad + d.bad = bad + bad' := by rw [h.bad, k.bad]
  unfold figC
  by_cases e0 : c.n = 0
  · have ez : zs = [] := List.eq_nil_of_length_eq_zero (by have := h.n; omega)
    subst ez
    rw [if_pos e0, List.nil_append]
    refine ⟨by rw [List.nil_append] at en; exact en, eb, k.sum, k.lost, k.low, k.high⟩
  · have nz : zs ≠ [] := fun e => e0 (by rw [h.n, e]; rfl)
    rw [if_neg e0]
    by_cases e1 : d.n = 0
    · have ey : ys = [] := List.eq_nil_of_length_eq_zero (by have := k.n; omega)
      subst ey
      rw [if_pos e1, List.append_nil]
      refine ⟨by rw [List.append_nil] at en; exact en, eb, h.sum, h.lost, h.low, h.high⟩
    · have ny : ys ≠ [] := fun e => e1 (by rw [k.n, e]; rfl)
      rw [if_neg e1]
      have q1 := h.low
      have q2 := k.low
      have q3 := h.high
      have q4 := k.high
      rw [if_neg nz] at q1 q3
      rw [if_neg ny] at q2 q4
      refine ⟨en, eb, ?_, ?_, ?_, ?_⟩
      · rw [sumZ_app]; exact h1
      · show Wh 0 (fop .add (fop .add c.lost d.lost) (if fnB (fop .add c.sum d.sum) then _ else 0))
        rw [if_pos h1.fnB]
        exact ((h.lost.add k.lost (by decide)).add hm (by decide))
      · rw [if_neg (by simp [nz]), lowZ_app]; exact (q1.least q2).can
      · rw [if_neg (by simp [nz]), highZ_app]; exact (q3.most q4).can
theorem WF.tot (h : WF zs bad c) (hs : SmZ zs) (hl : zs.length ≤ 8192) : Wh (sumZ zs) (totC c) := by
  have b1 := hs.sum
  unfold totC
  split
  · exact h.sum
  · have := h.sum.add h.lost (by omega)
    rwa [Int.add_zero] at this
end
end Go.Proofs.Ytffibfnagoagcaa


/- Lists of int32 that come in; three own lists of floats; figures of lists of whole numbers. -/
namespace Go.Proofs.Ytffibfnagoagcaa
open Go.RowKit
set_option maxRecDepth 100000
set_option linter.unusedVariables false

/-- The slice value .slice A n c reads as the int32s xs, below block B. -/
structure ArgJ (w : World) (B : Nat) (A : Option Addr) (n c : Nat) (xs : List Int) : Prop where
  len : xs.length = n
  le : n ≤ c
  cap : c ≤ maxLen
  fit : ∀ x ∈ xs, -2147483648 ≤ x ∧ x ≤ 2147483647
  at_ : 0 < n → ∃ b off, A = some ⟨b, off, none⟩ ∧ b < B ∧ ∀ j, j < n → w.cell? ⟨b, off + j, none⟩ = some (.int .i32 (xs.getD j 0))
theorem ArgJ.below {w w' : World} {B n c : Nat} {A : Option Addr} {xs : List Int} (h : ArgJ w B A n c xs) (hb : Below B w w') : ArgJ w' B A n c xs :=
  ⟨h.len, h.le, h.cap, h.fit, fun hn => by
    obtain ⟨b, off, e, hB, hc⟩ := h.at_ hn
    exact ⟨b, off, e, hB, fun j hj => (hb.cell (p := ⟨b, off + j, none⟩) hB).trans (hc j hj)⟩⟩
theorem ArgJ.fit' {w : World} {B n c : Nat} {A : Option Addr} {xs : List Int} (h : ArgJ w B A n c xs) (k : Nat) : -2147483648 ≤ xs.getD k 0 ∧ xs.getD k 0 ≤ 2147483647 := by
  rw [List.getD_eq_getElem?_getD]
  rcases hk : xs[k]? with _ | x
  · simp
  · obtain ⟨hk2, rfl⟩ := List.getElem?_eq_some_iff.1 hk
    exact h.fit _ (List.getElem_mem hk2)
theorem rem_small (z : Int) : (z.tmod 1048576).natAbs < 1048576 := by
  rw [Int.natAbs_tmod]
  exact Nat.mod_lt _ (by decide)
/-- Three own lists of floats side by side. -/
structure ThF (w wr : World) (A : Option Addr) (n c : Nat) (l : List Nat) (A1 : Option Addr) (n1 c1 : Nat) (l1 : List Nat) (A2 : Option Addr) (n2 c2 : Nat) (l2 : List Nat) : Prop where
  bel : Below w.heap.size w wr
  r0 : OwnV wr w.heap.size A n c (Fl l)
  r1 : OwnV wr w.heap.size A1 n1 c1 (Fl l1)
  r2 : OwnV wr w.heap.size A2 n2 c2 (Fl l2)
  d01 : ∀ y ∈ bkV A, y ∉ bkV A1
  d02 : ∀ y ∈ bkV A, y ∉ bkV A2
  d12 : ∀ y ∈ bkV A1, y ∉ bkV A2
section
variable {w wr w' : World} {A A1 A2 A' : Option Addr} {n c n1 c1 n2 c2 n' c' : Nat} {l l1 l2 l' : List Nat}
theorem ThF.nil (h : Below w.heap.size w wr) : ThF w wr none 0 0 [] none 0 0 [] none 0 0 [] :=
  ⟨h, OwnV.nil _ _, OwnV.nil _ _, OwnV.nil _ _, fun y hy => by simp [bkV] at hy, fun y hy => by simp [bkV] at hy, fun y hy => by simp [bkV] at hy⟩
theorem ThF.below (h : ThF w wr A n c l A1 n1 c1 l1 A2 n2 c2 l2) (hb : Below wr.heap.size wr w') : ThF w w' A n c l A1 n1 c1 l1 A2 n2 c2 l2 :=
  ⟨h.bel.trans (hb.mono h.bel.size), h.r0.below hb, h.r1.below hb, h.r2.below hb, h.d01, h.d02, h.d12⟩
theorem ThF.app0 (h : ThF w wr A n c l A1 n1 c1 l1 A2 n2 c2 l2) (ho : OwnV w' w.heap.size A' n' c' (Fl l')) (hf : Off (bkV A) wr w') {z : Nat} (hx : ∀ y ∈ bkV A', y ∈ bkV A ∨ y = z ∧ y < w'.heap.size) (hz : wr.heap.size ≤ z) : ThF w w' A' n' c' l' A1 n1 c1 l1 A2 n2 c2 l2 :=
  ⟨h.bel.trans (hf.below h.bel.size (fun y hy => (h.r0.lt y hy).1)), ho, h.r1.off hf (fun y hy hm => h.d01 y hm hy), h.r2.off hf (fun y hy hm => h.d02 y hm hy), fun y hy hm => by
    rcases hx y hy with e | e
    · exact h.d01 y e hm
    · have := (h.r1.lt y hm).2; omega, fun y hy hm => by
    rcases hx y hy with e | e
    · exact h.d02 y e hm
    · have := (h.r2.lt y hm).2; omega, h.d12⟩
theorem ThF.app1 (h : ThF w wr A n c l A1 n1 c1 l1 A2 n2 c2 l2) (ho : OwnV w' w.heap.size A' n' c' (Fl l')) (hf : Off (bkV A1) wr w') {z : Nat} (hx : ∀ y ∈ bkV A', y ∈ bkV A1 ∨ y = z ∧ y < w'.heap.size) (hz : wr.heap.size ≤ z) : ThF w w' A n c l A' n' c' l' A2 n2 c2 l2 :=
  ⟨h.bel.trans (hf.below h.bel.size (fun y hy => (h.r1.lt y hy).1)), h.r0.off hf (fun y hy hm => h.d01 y hy hm), ho, h.r2.off hf (fun y hy hm => h.d12 y hm hy), fun y hy hm => by
    rcases hx y hm with e | e
    · exact h.d01 y hy e
    · have := (h.r0.lt y hy).2; omega, h.d02, fun y hy hm => by
    rcases hx y hy with e | e
    · exact h.d12 y e hm
    · have := (h.r2.lt y hm).2; omega⟩
theorem ThF.app2 (h : ThF w wr A n c l A1 n1 c1 l1 A2 n2 c2 l2) (ho : OwnV w' w.heap.size A' n' c' (Fl l')) (hf : Off (bkV A2) wr w') {z : Nat} (hx : ∀ y ∈ bkV A', y ∈ bkV A2 ∨ y = z ∧ y < w'.heap.size) (hz : wr.heap.size ≤ z) : ThF w w' A n c l A1 n1 c1 l1 A' n' c' l' :=
  ⟨h.bel.trans (hf.below h.bel.size (fun y hy => (h.r2.lt y hy).1)), h.r0.off hf (fun y hy hm => h.d02 y hy hm), h.r1.off hf (fun y hy hm => h.d12 y hy hm), ho, h.d01, fun y hy hm => by
    rcases hx y hm with e | e
    · exact h.d02 y hy e
    · have := (h.r0.lt y hy).2; omega, fun y hy hm => by
    rcases hx y hm with e | e
    · exact h.d12 y hy e
    · have := (h.r1.lt y hy).2; omega⟩
end
/-- The floats l are the whole numbers zs and some NaNs. -/
structure FigL (zs : List Int) (bad : Int) (l : List Nat) : Prop where
  wf : WF zs bad (addAll newM.can l)
  fit : ∀ x ∈ l, x ≤ 18446744073709551615
  sm : SmZ zs
theorem FigL.nil : FigL [] 0 [] := ⟨WF.new, by simp, by simp [SmZ]⟩
theorem mem_snoc {α : Type} {P : α → Prop} {l : List α} {x : α} (h : ∀ y ∈ l, P y) (hx : P x) : ∀ y ∈ l ++ [x], P y := fun y hy => by
  rcases List.mem_append.1 hy with hy | hy
  · exact h y hy
  · simp only [List.mem_cons, List.not_mem_nil, or_false] at hy; subst hy; exact hx
theorem FigL.add {zs : List Int} {bad z : Int} {l : List Nat} (h : FigL zs bad l) (hl : zs.length ≤ 4096) (hz : z.natAbs < 1048576) : FigL (zs ++ [z]) bad (l ++ [floatOfInt FloatKind.f64 z]) := by
  have k := wh_int (z := z) (by omega)
  refine ⟨?_, mem_snoc h.fit k.le, mem_snoc h.sm hz⟩
  rw [addAll_snoc]
  exact h.wf.add k.can h.sm hl hz
theorem FigL.nan {zs : List Int} {bad : Int} {l : List Nat} (h : FigL zs bad l) : FigL zs (bad + 1) (l ++ [nanV]) := by
  refine ⟨?_, mem_snoc h.fit (by decide), h.sm⟩
  rw [addAll_snoc, can_nan nan_nanV]
  exact h.wf.nan nan_nanV
theorem Wh.of_can {z : Int} {b : Nat} (h : Wh z (canB b)) (hb : b ≤ 18446744073709551615) : Wh z b := by
  have h1 := h.nan
  rw [nan_can] at h1
  rwa [can_fin h1] at h
theorem Wh.eqF {z : Int} {x y : Nat} (h : Wh z x) (k : Wh z y) : FloatKind.f64.format.order x y = some .eq := by
  have e := order_fin h.le k.le h.fin k.fin
  rw [h.val, k.val, order_eq_iff.2 rfl] at e
  exact e
/-- The figures m are those of the whole numbers zs. -/
theorem WF.outs {zs : List Int} {bad : Int} {m : MV} (h : WF zs bad m.can) (ok : m.Ok) (hne : zs ≠ []) : Wh (sumZ zs) m.sum ∧ Wh (lowZ zs) m.low ∧ Wh (highZ zs) m.high := by
  have h1 := h.low
  have h2 := h.high
  rw [if_neg hne] at h1 h2
  exact ⟨Wh.of_can h.sum ok.sum, Wh.of_can h1 ok.low, Wh.of_can h2 ok.high⟩
end Go.Proofs.Ytffibfnagoagcaa


/- A list of int32 that comes in, opened. -/
namespace Go.Proofs.Ytffibfnagoagcaa
open Go.ChangeShapes Go.WideShapes Go.ChangeAt Go.RowKit
set_option maxRecDepth 100000

theorem i32s_cells : Try.prog.cellsOf 21 = 1 := by kernel_rfl
theorem i32s_bytes : Try.prog.bytesOf 21 = 4 := by kernel_rfl
theorem i32_of_wf {z : Int} (h : (Lit.int .i32 z).wf = true) : -2147483648 ≤ z ∧ z ≤ 2147483647 := by
  have := bounds_i32 h
  omega
theorem i32s_open {H : Type} {enc : TypeId × Value → H} {W : World} {a : Option Addr} {len cap : Nat} {d : DataW H} {p : List MemPlace}
    (h : DataW.Trod enc Try.prog W 0 (fun _ => true) true 62 (.slice a len cap) d p) :
    ∃ zs, ArgJ W W.heap.size a len cap zs ∧ (cap = 0 ∨ ∃ elems spare, d = .slice elems spare ∧ elems.length + spare.length = cap) := by
  obtain ⟨fuel, hf⟩ := h
  rcases open_ints Try.underlying62 Try.underlying21 i32s_cells hf with ⟨hcs, hx0⟩ | ⟨x, l, c, zs, hcs, _, hl, hm, hz, hx, hcell, hwz⟩
  · simp [Value.cells] at hcs
    obtain ⟨rfl, rfl, rfl⟩ := hcs
    exact ⟨[], ⟨rfl, Nat.le_refl _, by unfold maxLen; omega, by simp, fun h => absurd h (by omega)⟩, .inl rfl⟩
  · simp [Value.cells] at hcs
    obtain ⟨rfl, rfl, rfl⟩ := hcs
    have hzc : zs.length = cap := by simpa using hz
    have hd : d = .slice (lits .i32 (zs.take len)) (lits .i32 (zs.drop len)) := congrArg Prod.fst hx
    refine ⟨zs.take len, ⟨by simp; omega, hl, hm, fun v hv => i32_of_wf (hwz v (List.mem_of_mem_take hv)), fun hn => ?_⟩, .inr ⟨_, _, hd, by simp [lits]; omega⟩⟩
    have h0 := hcell 0 (by omega)
    obtain ⟨b, off, spot⟩ := x
    have hspot : spot = none := by simpa [Addr.add] using World.cell?_spot h0
    subst hspot
    refine ⟨b, off, rfl, ?_, fun k hk => ?_⟩
    · exact World.block_lt_of_cell? W _ (by simpa [Addr.add] using h0)
    · have hk' := hcell k (by omega)
      have e1 : (zs.take len).getD k 0 = zs.getD k 0 := by
        simp [List.getD_eq_getElem?_getD, hk]
      rw [e1, ← hk']
      by_cases h0 : k = 0 <;> simp [Addr.add, h0]
end Go.Proofs.Ytffibfnagoagcaa
