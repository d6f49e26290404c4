/- The law MeterWhole: its walk. -/
import Derived.Test.YtffibfnagoagcaaWhX
import Derived.RegionTactic
import Derived.BigRegion
import Derived.Outline
import Derived.Deep.DeepCutAuto
import Derived.Deep.RegionHeld3
import Derived.IntWalk
namespace Go.Proofs.Ytffibfnagoagcaa
open Go.RowKit
set_option maxRecDepth 100000
set_option linter.unusedVariables false

def WhR (w : World) (K m1 : Nat) (av bv cv sv lv hv iv : Value) (wr : World) : Prop :=
  ∃ (k : Nat) (Aa Ab Ac : Option Addr) (ca cb cc : Nat) (la lb lc : List Nat) (za zb : List Int), k ≤ K ∧ iv = .int .i64 (k : Int) ∧ za.length = min k m1 ∧ zb.length = k - m1 ∧ av = .slice Aa za.length ca ∧ bv = .slice Ab zb.length cb ∧ cv = .slice Ac k cc ∧
    sv = .int .i64 (sumZ (za ++ zb)) ∧ lv = .int .i64 (lowZ (za ++ zb)) ∧ hv = .int .i64 (highZ (za ++ zb)) ∧ ThF w wr Aa za.length ca la Ab zb.length cb lb Ac k cc lc ∧ FigL za 0 la ∧ FigL zb 0 lb ∧ FigL (za ++ zb) 0 lc
def WhN (w : World) (n0 r : Nat) (za : List Int) (Ab : Option Addr) (nb cb : Nat) (lb : List Nat) (Ac : Option Addr) (nc cc : Nat) (lc : List Nat) (av jv : Value) (wr : World) : Prop :=
  ∃ (j : Nat) (Aa : Option Addr) (ca : Nat) (la : List Nat), j ≤ r ∧ jv = .int .u8 (j : Int) ∧ av = .slice Aa (n0 + j) ca ∧ ThF w wr Aa (n0 + j) ca la Ab nb cb lb Ac nc cc lc ∧ FigL za (j : Int) la
theorem low_lo (zs : List Int) (h : SmZ zs) : -1073741824 ≤ lowZ zs := by
  induction zs with
  | nil => decide
  | cons a t ih =>
    have h1 := ih (fun z hz => h z (List.mem_cons_of_mem _ hz))
    have h2 := h a (List.mem_cons_self ..)
    have e := fold_min t (min 1073741824 a) (by omega)
    have e2 : lowZ (a :: t) = t.foldl min (min 1073741824 a) := rfl
    omega
theorem high_hi (zs : List Int) (h : SmZ zs) : highZ zs ≤ 1073741824 := by
  induction zs with
  | nil => decide
  | cons a t ih =>
    have h1 := ih (fun z hz => h z (List.mem_cons_of_mem _ hz))
    have h2 := h a (List.mem_cons_self ..)
    have e := fold_max t (max (-1073741824) a) (by omega)
    have e2 : highZ (a :: t) = t.foldl max (max (-1073741824) a) := rfl
    omega
theorem lowZ_ite (zs : List Int) (z : Int) : lowZ (zs ++ [z]) = if z < lowZ zs then z else lowZ zs := by
  rw [lowZ_snoc]; split <;> omega
theorem highZ_ite (zs : List Int) (z : Int) : highZ (zs ++ [z]) = if highZ zs < z then z else highZ zs := by
  rw [highZ_snoc]; split <;> omega
set_option maxHeartbeats 6400000 in
theorem meterWhole_g (w : World) (A A2 : Option Addr) (n c n2 c2 : Nat) (xs ys : List Int) (bz : Int) (h : ArgJ w w.heap.size A n c xs) (h2 : ArgJ w w.heap.size A2 n2 c2 ys) (hz0 : 0 ≤ bz) (hz1 : bz ≤ 255)
    (HAW : ∀ w, Calls Try.prog 11 #[] w (ValEnd w (.bool true))) :
    Calls Try.prog 8 #[.slice A n c, .slice A2 n2 c2, .int .u8 bz] w (ValEnd w (.bool true)) := by
  have hle := h.le
  have hle2 := h2.le
  have hcp := h.cap
  have hcp2 := h2.cap
  unfold maxLen at hcp hcp2
  obtain ⟨m1, hm1⟩ : ∃ m, m = min n 500 := ⟨_, rfl⟩
  obtain ⟨m2, hm2⟩ : ∃ m, m = min n2 500 := ⟨_, rfl⟩
  have HA := Lib.hid h
  have HP := Lib.hid h2
  have HM := Lib.hid (And.intro hm1 hm2)
  have hm1b : m1 ≤ 500 := by omega
  have hm2b : m2 ≤ 500 := by omega
  have hm1n : m1 ≤ n := by omega
  have hm2n : m2 ≤ n2 := by omega
  clear h h2 hm1 hm2
  go_enter Try.func8, Try.ntmps8
  go_wp2_with fail
  refine (HAW _).mono ?_
  rintro e w1 ⟨rfl, hb1⟩
  have HB1 := Lib.hid hb1
  clear hb1
  go_upto_region 3 with (fail)
  go_cut [0, 1] (fun s0 s1 wx => s0 = .slice A m1 c ∧ s1 = .slice A2 m2 c2 ∧ Below w.heap.size w wx)
  case first =>
    have e1 := HM.out.1
    have e2 := HM.out.2
    by_cases d1 : n ≤ 500
    · by_cases d2 : n2 ≤ 500
      · obtain rfl : m1 = n := by omega
        obtain rfl : m2 = n2 := by omega
        clear e1 e2
        go_region
        go_wp2_with fail
        go_meet
        exact ⟨rfl, rfl, HB1.out.drew⟩
      · obtain rfl : m1 = n := by omega
        obtain rfl : m2 = 500 := by omega
        clear e1 e2
        have d3 : 500 < n2 := by omega
        have d4 : (500 : Int) < (n2 : Int) := by omega
        go_region
        go_wp2_with fail
        go_meet
        exact ⟨rfl, rfl, HB1.out.drew⟩
    · by_cases d2 : n2 ≤ 500
      · obtain rfl : m1 = 500 := by omega
        obtain rfl : m2 = n2 := by omega
        clear e1 e2
        have d3 : 500 < n := by omega
        have d4 : (500 : Int) < (n : Int) := by omega
        go_region
        go_wp2_with fail
        go_meet
        exact ⟨rfl, rfl, HB1.out.drew⟩
      · obtain rfl : m1 = 500 := by omega
        obtain rfl : m2 = 500 := by omega
        clear e1 e2
        have d3 : 500 < n2 := by omega
        have d4 : (500 : Int) < (n2 : Int) := by omega
        have d5 : 500 < n := by omega
        have d6 : (500 : Int) < (n : Int) := by omega
        go_region
        go_wp2_with fail
        go_meet
        exact ⟨rfl, rfl, HB1.out.drew⟩
  case rest =>
    obtain ⟨rfl, rfl, hbc⟩ := hcut
    have hsz := hbc.size
    have HBC := Lib.hid hbc
    clear hbc HM HB1
    go_wp2
    go_loopw [7, 8, 9, 10, 11, 12, 40] (fun av bv cv sv lv hv iv wr => WhR w (m1 + m2) m1 av bv cv sv lv hv iv wr) (fun _ _ _ _ _ _ iv _ => m1 + m2 - (intOf iv).toNat)
    case atStart => exact ⟨0, none, none, none, 0, 0, 0, [], [], [], [], [], Nat.zero_le _, rfl, by simp, by simp, rfl, rfl, rfl, rfl, rfl, rfl, ThF.nil HBC.out, FigL.nil, FigL.nil, FigL.nil⟩
    case round =>
      obtain ⟨k, Aa, Ab, Ac, ca, cb, cc, la, lb, lc, za, zb, hk, rfl, hla, hlb, rfl, rfl, rfl, rfl, rfl, rfl, ht, fa, fb, fc⟩ := hrel
      have hzc : (za ++ zb).length = k := by rw [List.length_append]; omega
      have bs := fc.sm.sum
      have bl1 := low_lo _ fc.sm
      have bl2 := lowZ_le (za ++ zb)
      have bh1 := highZ_ge (za ++ zb)
      have bh2 := high_hi _ fc.sm
      rw [hzc] at bs
      have bs1 : -1048576000 ≤ sumZ (za ++ zb) := by omega
      have bs2 : sumZ (za ++ zb) ≤ 1048576000 := by omega
      clear bs
      rcases Nat.lt_or_ge k (m1 + m2) with h1 | h1
      · have ij : (k : Int) < (m1 : Int) + (m2 : Int) := by omega
        have ij0 : (0 : Int) ≤ (k : Int) := by omega
        have hwz := ht.bel.size
        by_cases hkm : k < m1
        · have ik : (k : Int) < (m1 : Int) := by omega
          obtain rfl : zb = [] := List.eq_nil_of_length_eq_zero (by omega)
          rw [List.append_nil] at bl1 bl2 bh1 bh2 bs1 bs2 fc hzc
          have hAk := HA.out.below ht.bel
          obtain ⟨bb, off, rfl, hB, hcell⟩ := hAk.at_ (by omega)
          have q := hcell k (by omega)
          have hx := HA.out.fit' k
          generalize xs.getD k 0 = x at q hx
          obtain ⟨z, hzr⟩ : ∃ z, x.tmod 1048576 = z := ⟨_, rfl⟩
          have hzs : z.natAbs < 1048576 := by rw [← hzr]; exact rem_small x
          have hx1 := hx.1
          have hx2 := hx.2
          have hz1' : -1048576 < z := by omega
          have hz2' : z < 1048576 := by omega
          have FA := Lib.hid (fa.add (z := z) (by omega) hzs)
          have FC := Lib.hid (fc.add (z := z) (by omega) hzs)
          obtain ⟨fz, hfz⟩ : ∃ fz, floatOfInt FloatKind.f64 z = fz := ⟨_, rfl⟩
          rw [hfz] at FA FC
          have HOT := Lib.hid fb
          have HT1 := Lib.hid (ht.below ((Below.refl wr.heap.size wr).alloc (Nat.le_refl _) (.cells #[.float .f64 fz] TF64)))
          have KP := Lib.hid (BlkL.new wr [.float .f64 fz] TF64)
          have HL := Lib.hid (And.intro hla (And.intro hlb hzc))
          have hlz : za.length ≤ 1000 := by omega
          clear hAk hcell ht fa fb fc hzs hx hla hlb hzc
          go_wp2_with (refine wpList_append_f rfl (.tmp 53) (.tmp 56) rfl rfl HT1.out.r0 wr.heap.size 1 fz rfl KP.out (by omega) (by simp; omega) ?_)
          intro A3 c3 w3 ho3 hf3 hx3
          have hT3 := HT1.out.app0 ho3 hf3 hx3 (by simp)
          have h3z := hT3.bel.size
          have HT4 := Lib.hid (hT3.below ((Below.refl w3.heap.size w3).alloc (Nat.le_refl _) (.cells #[.float .f64 fz] TF64)))
          have KP4 := Lib.hid (BlkL.new w3 [.float .f64 fz] TF64)
          clear ho3 hf3 hx3 hT3 HT1 KP q
          go_wp2_with (refine wpList_append_f rfl (.tmp 72) (.tmp 75) rfl rfl HT4.out.r2 w3.heap.size 1 fz rfl KP4.out (by omega) (by simp; omega) ?_)
          intro A5 c5 w5 ho5 hf5 hx5
          have HT5 := Lib.hid (HT4.out.app2 ho5 hf5 hx5 (by simp))
          clear ho5 hf5 hx5 HT4 KP4
          have HE : Hid (WhR w (m1 + m2) m1 (.slice A3 (za.length + 1) c3) (.slice Ab 0 cb) (.slice A5 (k + 1) c5) (.int .i64 (sumZ za + z)) (.int .i64 (if z < lowZ za then z else lowZ za)) (.int .i64 (if highZ za < z then z else highZ za)) (.int .i64 ((k : Int) + 1)) w5) := Lib.hid ⟨k + 1, A3, Ab, A5, c3, cb, c5, la ++ [fz], lb, lc ++ [fz], za ++ [z], [], by omega, by go_num, by have := HL.out.1; rw [List.length_append]; simp only [List.length_cons, List.length_nil]; omega, by simp only [List.length_nil]; omega, by rw [List.length_append]; rfl, rfl, rfl, by rw [List.append_nil, sumZ_snoc], by rw [List.append_nil, lowZ_ite], by rw [List.append_nil, highZ_ite], by rw [List.length_append]; exact HT5.out, FA.out, HOT.out, by rw [List.append_nil]; exact FC.out⟩
          clear HT5 FA FC HOT hzr hfz
          go_wp2
          go_roundw
          case rel => exact HE.out
          case measure => simp [intOf]; omega
        · have ik : ¬ (k : Int) < (m1 : Int) := by omega
          have hAk := HP.out.below ht.bel
          obtain ⟨bb, off, rfl, hB, hcell⟩ := hAk.at_ (by omega)
          have q := hcell (k - m1) (by omega)
          have hx := HP.out.fit' (k - m1)
          have ekm : ((k - m1 : Nat) : Int) = (k : Int) - (m1 : Int) := by omega
          generalize ys.getD (k - m1) 0 = x at q hx
          obtain ⟨z, hzr⟩ : ∃ z, x.tmod 1048576 = z := ⟨_, rfl⟩
          have hzs : z.natAbs < 1048576 := by rw [← hzr]; exact rem_small x
          have hx1 := hx.1
          have hx2 := hx.2
          have hz1' : -1048576 < z := by omega
          have hz2' : z < 1048576 := by omega
          have FA := Lib.hid (fb.add (z := z) (by omega) hzs)
          have FC := Lib.hid (fc.add (z := z) (by omega) hzs)
          obtain ⟨fz, hfz⟩ : ∃ fz, floatOfInt FloatKind.f64 z = fz := ⟨_, rfl⟩
          rw [hfz] at FA FC
          have HOT := Lib.hid fa
          have HT1 := Lib.hid (ht.below ((Below.refl wr.heap.size wr).alloc (Nat.le_refl _) (.cells #[.float .f64 fz] TF64)))
          have KP := Lib.hid (BlkL.new wr [.float .f64 fz] TF64)
          have HL := Lib.hid (And.intro hla (And.intro hlb hzc))
          have hlz : zb.length ≤ 1000 := by omega
          clear hAk hcell ht fa fb fc hzs hx hla hlb hzc ekm
          go_wp2_with (refine wpList_append_f rfl (.tmp 67) (.tmp 70) rfl rfl HT1.out.r1 wr.heap.size 1 fz rfl KP.out (by omega) (by simp; omega) ?_)
          intro A3 c3 w3 ho3 hf3 hx3
          have hT3 := HT1.out.app1 ho3 hf3 hx3 (by simp)
          have h3z := hT3.bel.size
          have HT4 := Lib.hid (hT3.below ((Below.refl w3.heap.size w3).alloc (Nat.le_refl _) (.cells #[.float .f64 fz] TF64)))
          have KP4 := Lib.hid (BlkL.new w3 [.float .f64 fz] TF64)
          clear ho3 hf3 hx3 hT3 HT1 KP q
          go_wp2_with (refine wpList_append_f rfl (.tmp 72) (.tmp 75) rfl rfl HT4.out.r2 w3.heap.size 1 fz rfl KP4.out (by omega) (by simp; omega) ?_)
          intro A5 c5 w5 ho5 hf5 hx5
          have HT5 := Lib.hid (HT4.out.app2 ho5 hf5 hx5 (by simp))
          clear ho5 hf5 hx5 HT4 KP4
          have HE : Hid (WhR w (m1 + m2) m1 (.slice Aa za.length ca) (.slice A3 (zb.length + 1) c3) (.slice A5 (k + 1) c5) (.int .i64 (sumZ (za ++ zb) + z)) (.int .i64 (if z < lowZ (za ++ zb) then z else lowZ (za ++ zb))) (.int .i64 (if highZ (za ++ zb) < z then z else highZ (za ++ zb))) (.int .i64 ((k : Int) + 1)) w5) := Lib.hid ⟨k + 1, Aa, A3, A5, ca, c3, c5, la, lb ++ [fz], lc ++ [fz], za, zb ++ [z], by omega, by go_num, by have := HL.out.1; omega, by have := HL.out.2.1; rw [List.length_append]; simp only [List.length_cons, List.length_nil]; omega, rfl, by rw [List.length_append]; rfl, rfl, by rw [← List.append_assoc, sumZ_snoc], by rw [← List.append_assoc, lowZ_ite], by rw [← List.append_assoc, highZ_ite], by rw [List.length_append]; exact HT5.out, HOT.out, FA.out, by rw [← List.append_assoc]; exact FC.out⟩
          clear HT5 FA FC HOT hzr hfz
          go_wp2
          go_roundw
          case rel => exact HE.out
          case measure => simp [intOf]; omega
      · obtain rfl : k = m1 + m2 := by omega
        have jn : ¬ ((m1 + m2 : Nat) : Int) < (m1 : Int) + (m2 : Int) := by omega
        have hla2 : za.length = m1 := by omega
        have hlb2 : zb.length = m2 := by omega
        obtain ⟨r, hr⟩ : ∃ r : Nat, bz.tmod 3 = (r : Int) := ⟨(bz % 3).toNat, by rw [Int.tmod_eq_emod_of_nonneg hz0]; omega⟩
        have hr2 : r ≤ 2 := by
          have h3 := hr
          rw [Int.tmod_eq_emod_of_nonneg hz0] at h3; omega
        have HT := Lib.hid ht
        have HF := Lib.hid (And.intro fa (And.intro fb fc))
        have HLL := Lib.hid (And.intro hla2 hlb2)
        have hl1 : za.length ≤ 500 := by omega
        have hl2 : zb.length ≤ 500 := by omega
        clear ht fa fb fc hla hlb hzc hla2 hlb2
        go_wp2_with fail
        go_loopw [7, 89] (fun av jv wi => WhN w za.length r za Ab zb.length cb lb Ac (m1 + m2) cc lc av jv wi) (fun _ jv _ => r - (intOf jv).toNat)
        case atStart => exact ⟨0, Aa, ca, la, Nat.zero_le _, rfl, rfl, HT.out, HF.out.1⟩
        case round =>
          obtain ⟨j, Aj, cj, lj, hj, rfl, rfl, htj, hfj⟩ := hrel
          clear HT
          rcases Nat.lt_or_ge j r with g1 | g1
          · have gj : (j : Int) < (r : Int) := by omega
            have HT4 := Lib.hid (htj.below ((Below.refl wr.heap.size wr).alloc (Nat.le_refl _) (.cells #[.float .f64 nanV] TF64)))
            have KP4 := Lib.hid (BlkL.new wr [.float .f64 nanV] TF64)
            have h4z := htj.bel.size
            have HB4 := Lib.hid hfj.nan
            clear htj hfj
            go_wp2_with fail
            with_reducible refine (nan_any _).mono ?_
            rintro e w4 ⟨rfl, rfl⟩
            go_wp2_with (refine wpList_append_f rfl (.tmp 91) (.tmp 93) rfl rfl HT4.out.r0 wr.heap.size 1 nanV rfl KP4.out (by omega) (by simp; omega) ?_)
            intro A5 c5 w5 ho5 hf5 hx5
            have HE : Hid (WhN w za.length r za Ab zb.length cb lb Ac (m1 + m2) cc lc (.slice A5 (za.length + j + 1) c5) (.int .u8 ((j : Int) + 1)) w5) := Lib.hid ⟨j + 1, A5, c5, _, by omega, by go_num, rfl, HT4.out.app0 ho5 hf5 hx5 (by simp), HB4.out⟩
            clear ho5 hf5 hx5 HT4 KP4
            go_wp2
            go_roundw
            case rel => exact HE.out
            case measure => simp [intOf]; omega
          · obtain rfl : j = r := by omega
            have gj : ¬ (j : Int) < (j : Int) := by omega
            have HO1 := Lib.hid (ofP_any wr Aj _ cj lj (htj.r0.argF hfj.fit) (by omega))
            have HFJ := Lib.hid hfj
            have HTJ := Lib.hid htj
            clear htj hfj
            have kst : ∀ (a : Addr) (x : Nat) (w : World), (store a (.float .f64 x)).run Try.prog w = stored Try.prog w a (.float .f64 x) .plain := fun a x w => run_store _ _ _ _ _ rfl
            go_wp2_with fail
            with_reducible refine HO1.out.mono ?_
            rintro e w2 ⟨⟨n1, d1, s1, l1, lo1, hi1, me1, sp1⟩, rfl, ok1, can1, hb2⟩
            simp only [MV.val]
            have K1 := BlkL.new w2 [.int .i64 n1, .int .i64 d1, .float .f64 s1, .float .f64 l1, .float .f64 lo1, .float .f64 hi1, .float .f64 me1, .float .f64 sp1] 29
            have ht2 := (HTJ.out.below hb2).below ((Below.refl _ _).alloc (Nat.le_refl _) (.cells #[.int .i64 n1, .int .i64 d1, .float .f64 s1, .float .f64 l1, .float .f64 lo1, .float .f64 hi1, .float .f64 me1, .float .f64 sp1] 29))
            have HO2 := Lib.hid (ofP_any _ Ab _ cb lb (ht2.r1.argF HF.out.2.1.fit) (by omega))
            have HT2 := Lib.hid ht2
            have HK1 := Lib.hid K1
            have W1 := HFJ.out.wf
            rw [← can1] at W1
            have HW1 := Lib.hid (And.intro ok1 W1)
            clear HO1 HTJ K1 ht2 hb2 ok1 can1 W1 HFJ
            go_wp2_with fail
            with_reducible refine HO2.out.mono ?_
            rintro e w3 ⟨⟨n2', d2, s2, l2, lo2, hi2, me2, sp2⟩, rfl, ok2, can2, hb3⟩
            simp only [MV.val]
            have K2 := BlkL.new w3 [.int .i64 n2', .int .i64 d2, .float .f64 s2, .float .f64 l2, .float .f64 lo2, .float .f64 hi2, .float .f64 me2, .float .f64 sp2] 29
            have hk1 := (HK1.out.below hb3).alloc (.cells #[.int .i64 n2', .int .i64 d2, .float .f64 s2, .float .f64 l2, .float .f64 lo2, .float .f64 hi2, .float .f64 me2, .float .f64 sp2] 29)
            have ht3 := (HT2.out.below hb3).below ((Below.refl _ _).alloc (Nat.le_refl _) (.cells #[.int .i64 n2', .int .i64 d2, .float .f64 s2, .float .f64 l2, .float .f64 lo2, .float .f64 hi2, .float .f64 me2, .float .f64 sp2] 29))
            have HO3 := Lib.hid (ofP_any _ Ac _ cc lc (ht3.r2.argF HF.out.2.2.fit) (by omega))
            have HT3 := Lib.hid ht3
            have HK2 := Lib.hid (And.intro hk1 K2)
            have W2 := HF.out.2.1.wf
            rw [← can2] at W2
            have HW2 := Lib.hid (And.intro ok2 W2)
            clear HO2 HT2 HK1 K2 hk1 ht3 hb3 ok2 can2 W2
            go_wp2_with fail
            with_reducible refine HO3.out.mono ?_
            rintro e w4 ⟨⟨n3, d3, s3, l3, lo3, hi3, me3, sp3⟩, rfl, ok3, can3, hb4⟩
            simp only [MV.val]
            have K3 := BlkL.new w4 [.int .i64 n3, .int .i64 d3, .float .f64 s3, .float .f64 l3, .float .f64 lo3, .float .f64 hi3, .float .f64 me3, .float .f64 sp3] 29
            have hk1 := (HK2.out.1.below hb4).alloc (.cells #[.int .i64 n3, .int .i64 d3, .float .f64 s3, .float .f64 l3, .float .f64 lo3, .float .f64 hi3, .float .f64 me3, .float .f64 sp3] 29)
            have hk2 := (HK2.out.2.below hb4).alloc (.cells #[.int .i64 n3, .int .i64 d3, .float .f64 s3, .float .f64 l3, .float .f64 lo3, .float .f64 hi3, .float .f64 me3, .float .f64 sp3] 29)
            have HB4 := Lib.hid ((HT3.out.below hb4).below ((Below.refl _ _).alloc (Nat.le_refl _) (.cells #[.int .i64 n3, .int .i64 d3, .float .f64 s3, .float .f64 l3, .float .f64 lo3, .float .f64 hi3, .float .f64 me3, .float .f64 sp3] 29))).bel
            have W3 := HF.out.2.2.wf
            rw [← can3] at W3
            have HW3 := Lib.hid (And.intro ok3 W3)
            have HC3 := Lib.hid can3
            have hlc : lc.length = m1 + m2 := by have := HT3.out.r2.len; rwa [Fl_len] at this
            have HLC := Lib.hid hlc
            clear hlc
            have hn1 : n1 = ((za.length : Nat) : Int) := HW1.out.2.n
            have hn2 : n2' = ((zb.length : Nat) : Int) := HW2.out.2.n
            have hd1 : d1 = (j : Int) := HW1.out.2.bad
            have hd2 : d2 = 0 := HW2.out.2.bad
            have hn3 : n3 = (((za ++ zb).length : Nat) : Int) := HW3.out.2.n
            have hd3 : d3 = 0 := HW3.out.2.bad
            have hcb : cntsB (MV.mk n1 d1 s1 l1 lo1 hi1 me1 sp1) (MV.mk n2' d2 s2 l2 lo2 hi2 me2 sp2) = true := by
              unfold cntsB
              rw [Bool.and_eq_true, cntB_iff, cntB_iff]
              simp only
              omega
            have HMG := mergeP_any (w4.alloc (.cells #[.int .i64 n3, .int .i64 d3, .float .f64 s3, .float .f64 l3, .float .f64 lo3, .float .f64 hi3, .float .f64 me3, .float .f64 sp3] 29)) (MV.mk n1 d1 s1 l1 lo1 hi1 me1 sp1) (MV.mk n2' d2 s2 l2 lo2 hi2 me2 sp2) HW1.out.1 HW2.out.1 (by simp only; omega) (by simp only; omega)
            unfold mergeE mergeC2 at HMG
            rw [if_pos hcb] at HMG
            simp only [if_pos hcb] at HMG
            simp only [MV.val] at HMG
            have HM1 := Lib.hid HMG
            have HWT := Lib.hid (HW1.out.2.fig HW2.out.2 HF.out.1.sm HF.out.2.1.sm (by omega) (by omega))
            have p0 := hk1.cell 0 _ rfl
            have p1 := hk1.cell 1 _ rfl
            have p2 := hk1.cell 2 _ rfl
            have p3 := hk1.cell 3 _ rfl
            have p4 := hk1.cell 4 _ rfl
            have p5 := hk1.cell 5 _ rfl
            have p6 := hk1.cell 6 _ rfl
            have p7 := hk1.cell 7 _ rfl
            have pl := hk1.lt
            have q0 := hk2.cell 0 _ rfl
            have q1 := hk2.cell 1 _ rfl
            have q2 := hk2.cell 2 _ rfl
            have q3 := hk2.cell 3 _ rfl
            have q4 := hk2.cell 4 _ rfl
            have q5 := hk2.cell 5 _ rfl
            have q6 := hk2.cell 6 _ rfl
            have q7 := hk2.cell 7 _ rfl
            have ql := hk2.lt
            have HK3 := Lib.hid K3
            have HNN := Lib.hid (And.intro hn1 (And.intro hn2 (And.intro hd1 (And.intro hd2 (And.intro hn3 hd3)))))
            clear HO3 HT3 HK2 K3 hb4 ok3 can3 W3 HMG hk1 hk2 hn1 hn2 hd1 hd2 hn3 hd3 hcb
            go_wp2_with fail
            with_reducible refine HM1.out.mono ?_
            rintro e w5 ⟨⟨n4, d4, s4, l4, lo4, hi4, me4, sp4⟩, rfl, ok4, can4, hb5⟩
            simp only
            have W4 : WF (za ++ zb) ((j : Int) + 0) (MV.mk n4 d4 s4 l4 lo4 hi4 me4 sp4).can := by rw [can4]; exact HWT.out
            have hzl : (za ++ zb).length = m1 + m2 := by rw [List.length_append, HLL.out.1, HLL.out.2]
            have hn4 : n4 = ((m1 + m2 : Nat) : Int) := by have := W4.n; rw [hzl] at this; exact this
            have hd4 : d4 = (j : Int) := by have := W4.bad; rw [Int.add_zero] at this; exact this
            have hn3 : n3 = ((m1 + m2 : Nat) : Int) := by have := HNN.out.2.2.2.2.1; rw [hzl] at this; exact this
            have hd3 : d3 = 0 := HNN.out.2.2.2.2.2
            have HW4 := Lib.hid (And.intro ok4 W4)
            have K4 := BlkL.new w5 [.int .i64 n4, .int .i64 d4, .float .f64 s4, .float .f64 l4, .float .f64 lo4, .float .f64 hi4, .float .f64 me4, .float .f64 sp4] 29
            have hk3 := (HK3.out.below hb5).alloc (.cells #[.int .i64 n4, .int .i64 d4, .float .f64 s4, .float .f64 l4, .float .f64 lo4, .float .f64 hi4, .float .f64 me4, .float .f64 sp4] 29)
            have HB5 := Lib.hid ((HB4.out.trans (hb5.mono HB4.out.size)).alloc (HB4.out.trans (hb5.mono HB4.out.size)).size (.cells #[.int .i64 n4, .int .i64 d4, .float .f64 s4, .float .f64 l4, .float .f64 lo4, .float .f64 hi4, .float .f64 me4, .float .f64 sp4] 29))
            have HZL := Lib.hid hzl
            have hsm : SmZ (za ++ zb) := HF.out.2.2.sm
            have HSM := Lib.hid hsm
            have b1 : (n4 != (m1 : Int) + (m2 : Int)) = false := by rw [hn4]; simp
            have b2 : (n3 != (m1 : Int) + (m2 : Int)) = false := by rw [hn3]; simp
            have b3 : (d3 != 0) = false := by rw [hd3]; rfl
            have b4 : (d4 != (j : Int)) = false := by rw [hd4]; simp
            have HB1 := Lib.hid (And.intro b1 (And.intro b2 (And.intro b3 b4)))
            have hjw : IntKind.i64.wrap (j : Int) = (j : Int) := IntWalk.i64_in _ (by omega)
            have HJW := Lib.hid hjw
            have HND := Lib.hid (And.intro hn4 (And.intro hd4 (And.intro hn3 hd3)))
            have HG3 := Lib.hid hk3
            have HG4 := Lib.hid K4
            clear b1 b2 b3 b4 hjw HM1 HWT HK3 K4 hk3 hb5 ok4 can4 W4 hzl hsm HW1 HW2 HNN HB4 hn4 hd4 hn3 hd3
            clear p0 p1 p2 p3 p4 p5 p6 p7 pl q0 q1 q2 q3 q4 q5 q6 q7 ql
            go_upto_region 26 with (fail)
            generalize w5.alloc (.cells #[.int .i64 n4, .int .i64 d4, .float .f64 s4, .float .f64 l4, .float .f64 lo4, .float .f64 hi4, .float .f64 me4, .float .f64 sp4] 29) = w6 at *
            generalize w5.heap.size = B5 at *
            generalize w4.heap.size = B4 at *
            obtain ⟨b1, b2, b3, b4⟩ := HB1.out
            have g0 := HG3.out.cell 0 _ rfl
            have g1 := HG3.out.cell 1 _ rfl
            have g2 := HG3.out.cell 2 _ rfl
            have g3 := HG3.out.cell 3 _ rfl
            have g4 := HG3.out.cell 4 _ rfl
            have g5 := HG3.out.cell 5 _ rfl
            have g6 := HG3.out.cell 6 _ rfl
            have g7 := HG3.out.cell 7 _ rfl
            have gl := HG3.out.lt
            have t0 := HG4.out.cell 0 _ rfl
            have t1 := HG4.out.cell 1 _ rfl
            have t2 := HG4.out.cell 2 _ rfl
            have t3 := HG4.out.cell 3 _ rfl
            have t4 := HG4.out.cell 4 _ rfl
            have t5 := HG4.out.cell 5 _ rfl
            have t6 := HG4.out.cell 6 _ rfl
            have t7 := HG4.out.cell 7 _ rfl
            have tl := HG4.out.lt
            have hz3 := totP_any w6 (MV.mk n3 d3 s3 l3 lo3 hi3 me3 sp3) HW3.out.1
            simp only [MV.val] at hz3
            have HTO3 := Lib.hid hz3
            clear hz3
            by_cases hem : m1 + m2 = 0
            · have he0 : (m1 : Int) + (m2 : Int) = 0 := by omega
              have b5 : (n4 != 0) = false := by rw [HND.out.1, hem]; rfl
              have b6 : (n3 != 0) = false := by rw [HND.out.2.2.1, hem]; rfl
              have hzz : za ++ zb = [] := List.eq_nil_of_length_eq_zero (by rw [HZL.out, hem])
              have hlc0 : lc = [] := List.eq_nil_of_length_eq_zero (by rw [HLC.out, hem])
              have hc3 := HC3.out
              rw [hlc0] at hc3
              have hsm := fun w => same8l_any w (MV.mk n3 d3 s3 l3 lo3 hi3 me3 sp3) newM HW3.out.1 newM_ok hc3
              simp only [MV.val] at hsm
              have HSA := Lib.hid hsm
              have hto := fun w => totP_any w (MV.mk n4 d4 s4 l4 lo4 hi4 me4 sp4) HW4.out.1
              simp only [MV.val] at hto
              have HTO4 := Lib.hid hto
              have hw0 := HW4.out.2.tot HSM.out (by rw [HZL.out, hem]; omega)
              rw [hzz] at hw0
              have HW0 : Hid (Wh 0 _) := Lib.hid hw0
              have hnd := newD_any
              simp only [MV.val] at hnd
              have HNWD := Lib.hid hnd
              clear hsm hto hw0 hc3 hzz hlc0 hnd
              go_wp2_with fail
              go_region_held3 (fun w' => w'.cell? ⟨B4, 0, none⟩ = some (.int .i64 n3) ∧ w'.cell? ⟨B4, 1, none⟩ = some (.int .i64 d3) ∧ w'.cell? ⟨B4, 2, none⟩ = some (.float .f64 s3) ∧ w'.cell? ⟨B4, 3, none⟩ = some (.float .f64 l3) ∧ w'.cell? ⟨B4, 4, none⟩ = some (.float .f64 lo3) ∧ w'.cell? ⟨B4, 5, none⟩ = some (.float .f64 hi3) ∧ w'.cell? ⟨B4, 6, none⟩ = some (.float .f64 me3) ∧ w'.cell? ⟨B4, 7, none⟩ = some (.float .f64 sp3) ∧ w'.cell? ⟨B5, 0, none⟩ = some (.int .i64 n4) ∧ w'.cell? ⟨B5, 1, none⟩ = some (.int .i64 d4) ∧ w'.cell? ⟨B5, 2, none⟩ = some (.float .f64 s4) ∧ w'.cell? ⟨B5, 3, none⟩ = some (.float .f64 l4) ∧ w'.cell? ⟨B5, 4, none⟩ = some (.float .f64 lo4) ∧ w'.cell? ⟨B5, 5, none⟩ = some (.float .f64 hi4) ∧ w'.cell? ⟨B5, 6, none⟩ = some (.float .f64 me4) ∧ w'.cell? ⟨B5, 7, none⟩ = some (.float .f64 sp4)) (go_keep)
                (first
                | ((with_reducible refine (HNWD.out _).mono ?_); rintro e w7 ⟨rfl, b7⟩; have gl7 := Nat.lt_of_lt_of_le gl b7.size; have tl7 := Nat.lt_of_lt_of_le tl b7.size; have g0a := (b7.cell (p := ⟨B4, 0, none⟩) gl).trans g0; have g1a := (b7.cell (p := ⟨B4, 1, none⟩) gl).trans g1; have g2a := (b7.cell (p := ⟨B4, 2, none⟩) gl).trans g2; have g3a := (b7.cell (p := ⟨B4, 3, none⟩) gl).trans g3; have g4a := (b7.cell (p := ⟨B4, 4, none⟩) gl).trans g4; have g5a := (b7.cell (p := ⟨B4, 5, none⟩) gl).trans g5; have g6a := (b7.cell (p := ⟨B4, 6, none⟩) gl).trans g6; have g7a := (b7.cell (p := ⟨B4, 7, none⟩) gl).trans g7; have t0a := (b7.cell (p := ⟨B5, 0, none⟩) tl).trans t0; have t1a := (b7.cell (p := ⟨B5, 1, none⟩) tl).trans t1; have t2a := (b7.cell (p := ⟨B5, 2, none⟩) tl).trans t2; have t3a := (b7.cell (p := ⟨B5, 3, none⟩) tl).trans t3; have t4a := (b7.cell (p := ⟨B5, 4, none⟩) tl).trans t4; have t5a := (b7.cell (p := ⟨B5, 5, none⟩) tl).trans t5; have t6a := (b7.cell (p := ⟨B5, 6, none⟩) tl).trans t6; have t7a := (b7.cell (p := ⟨B5, 7, none⟩) tl).trans t7; have HB7 := Lib.hid b7; clear b7)
                | ((with_reducible refine (HSA.out _).mono ?_); rintro e w8 ⟨rfl, b8⟩; have gl8 := Nat.lt_of_lt_of_le gl7 b8.size; have tl8 := Nat.lt_of_lt_of_le tl7 b8.size; have g0b := (b8.cell (p := ⟨B4, 0, none⟩) gl7).trans g0a; have g1b := (b8.cell (p := ⟨B4, 1, none⟩) gl7).trans g1a; have g2b := (b8.cell (p := ⟨B4, 2, none⟩) gl7).trans g2a; have g3b := (b8.cell (p := ⟨B4, 3, none⟩) gl7).trans g3a; have g4b := (b8.cell (p := ⟨B4, 4, none⟩) gl7).trans g4a; have g5b := (b8.cell (p := ⟨B4, 5, none⟩) gl7).trans g5a; have g6b := (b8.cell (p := ⟨B4, 6, none⟩) gl7).trans g6a; have g7b := (b8.cell (p := ⟨B4, 7, none⟩) gl7).trans g7a; have t0b := (b8.cell (p := ⟨B5, 0, none⟩) tl7).trans t0a; have t1b := (b8.cell (p := ⟨B5, 1, none⟩) tl7).trans t1a; have t2b := (b8.cell (p := ⟨B5, 2, none⟩) tl7).trans t2a; have t3b := (b8.cell (p := ⟨B5, 3, none⟩) tl7).trans t3a; have t4b := (b8.cell (p := ⟨B5, 4, none⟩) tl7).trans t4a; have t5b := (b8.cell (p := ⟨B5, 5, none⟩) tl7).trans t5a; have t6b := (b8.cell (p := ⟨B5, 6, none⟩) tl7).trans t6a; have t7b := (b8.cell (p := ⟨B5, 7, none⟩) tl7).trans t7a; have HB8 := Lib.hid b8; clear b8)
                | ((with_reducible refine (HTO4.out _).mono ?_); rintro e w9 ⟨v9, rfl, hv9, cv9, b9⟩; have e9 : FloatKind.f64.format.order v9 0 = some .eq := (Wh.of_can (by rw [cv9]; exact HW0.out) hv9).eqF wh0; have g0c := (b9.cell (p := ⟨B4, 0, none⟩) gl8).trans g0b; have g1c := (b9.cell (p := ⟨B4, 1, none⟩) gl8).trans g1b; have g2c := (b9.cell (p := ⟨B4, 2, none⟩) gl8).trans g2b; have g3c := (b9.cell (p := ⟨B4, 3, none⟩) gl8).trans g3b; have g4c := (b9.cell (p := ⟨B4, 4, none⟩) gl8).trans g4b; have g5c := (b9.cell (p := ⟨B4, 5, none⟩) gl8).trans g5b; have g6c := (b9.cell (p := ⟨B4, 6, none⟩) gl8).trans g6b; have g7c := (b9.cell (p := ⟨B4, 7, none⟩) gl8).trans g7b; have t0c := (b9.cell (p := ⟨B5, 0, none⟩) tl8).trans t0b; have t1c := (b9.cell (p := ⟨B5, 1, none⟩) tl8).trans t1b; have t2c := (b9.cell (p := ⟨B5, 2, none⟩) tl8).trans t2b; have t3c := (b9.cell (p := ⟨B5, 3, none⟩) tl8).trans t3b; have t4c := (b9.cell (p := ⟨B5, 4, none⟩) tl8).trans t4b; have t5c := (b9.cell (p := ⟨B5, 5, none⟩) tl8).trans t5b; have t6c := (b9.cell (p := ⟨B5, 6, none⟩) tl8).trans t6b; have t7c := (b9.cell (p := ⟨B5, 7, none⟩) tl8).trans t7b; have HB9 := Lib.hid b9; clear b9 cv9))
              have s1 : Below w6.heap.size w6 w7 := (Below.refl w6.heap.size w6).drew.trans HB7.out
              have s2 := s1.trans (HB8.out.mono s1.size)
              have s3 := s2.trans (HB9.out.mono s2.size)
              have HBE : Hid (Below w.heap.size w w9) := Lib.hid (HB5.out.trans (s3.mono HB5.out.size))
              clear s1 s2 s3
              go_wp2_with fail
              go_ret
              exact ⟨rfl, HBE.out⟩
            · have he0 : ¬ (m1 : Int) + (m2 : Int) = 0 := by omega
              have hne : za ++ zb ≠ [] := fun e => hem (by rw [← HZL.out, e]; rfl)
              obtain ⟨o1, o2, o3⟩ := HW3.out.2.outs HW3.out.1 hne
              obtain ⟨o4, o5, o6⟩ := HW4.out.2.outs HW4.out.1 hne
              have ks := wh_int (z := sumZ (za ++ zb)) (by omega)
              have kl := wh_int (z := lowZ (za ++ zb)) (by omega)
              have kh := wh_int (z := highZ (za ++ zb)) (by omega)
              have e1 : FloatKind.f64.format.order s3 (floatOfInt FloatKind.f64 (sumZ (za ++ zb))) = some .eq := o1.eqF ks
              have e2 : FloatKind.f64.format.order s4 (floatOfInt FloatKind.f64 (sumZ (za ++ zb))) = some .eq := o4.eqF ks
              have e3 : FloatKind.f64.format.order lo3 (floatOfInt FloatKind.f64 (lowZ (za ++ zb))) = some .eq := o2.eqF kl
              have e4 : FloatKind.f64.format.order lo4 (floatOfInt FloatKind.f64 (lowZ (za ++ zb))) = some .eq := o5.eqF kl
              have e5 : FloatKind.f64.format.order hi3 (floatOfInt FloatKind.f64 (highZ (za ++ zb))) = some .eq := o3.eqF kh
              have e6 : FloatKind.f64.format.order hi4 (floatOfInt FloatKind.f64 (highZ (za ++ zb))) = some .eq := o6.eqF kh
              have HKS := Lib.hid ks
              have HS3 := Lib.hid (HW3.out.2.tot HSM.out (by rw [HZL.out]; omega))
              have HS4 := Lib.hid (HW4.out.2.tot HSM.out (by rw [HZL.out]; omega))
              clear o1 o2 o3 o4 o5 o6 ks kl kh hne
              go_wp2_with fail
              with_reducible refine HTO3.out.mono ?_
              rintro e w7 ⟨v7, rfl, hv7, cv7, b7⟩
              have e7 : FloatKind.f64.format.order v7 (floatOfInt FloatKind.f64 (sumZ (za ++ zb))) = some .eq := (Wh.of_can (by rw [cv7]; exact HS3.out) hv7).eqF HKS.out
              have hz4 := totP_any w7 (MV.mk n4 d4 s4 l4 lo4 hi4 me4 sp4) HW4.out.1
              simp only [MV.val] at hz4
              have HTO4 := Lib.hid hz4
              have HG3' := Lib.hid (HG3.out.below b7)
              have HG4' := Lib.hid (HG4.out.below b7)
              have HB7 := Lib.hid b7
              clear hz4 cv7 b7 HTO3 HG3 HG4
              clear g0 g1 g2 g3 g4 g5 g6 g7 gl t0 t1 t2 t3 t4 t5 t6 t7 tl
              have g0 := HG3'.out.cell 0 _ rfl
              have g1 := HG3'.out.cell 1 _ rfl
              have g2 := HG3'.out.cell 2 _ rfl
              have g3 := HG3'.out.cell 3 _ rfl
              have g4 := HG3'.out.cell 4 _ rfl
              have g5 := HG3'.out.cell 5 _ rfl
              have g6 := HG3'.out.cell 6 _ rfl
              have g7 := HG3'.out.cell 7 _ rfl
              have gl := HG3'.out.lt
              have t0 := HG4'.out.cell 0 _ rfl
              have t1 := HG4'.out.cell 1 _ rfl
              have t2 := HG4'.out.cell 2 _ rfl
              have t3 := HG4'.out.cell 3 _ rfl
              have t4 := HG4'.out.cell 4 _ rfl
              have t5 := HG4'.out.cell 5 _ rfl
              have t6 := HG4'.out.cell 6 _ rfl
              have t7 := HG4'.out.cell 7 _ rfl
              have tl := HG4'.out.lt
              go_wp2_with fail
              with_reducible refine HTO4.out.mono ?_
              rintro e w8 ⟨v8, rfl, hv8, cv8, b8⟩
              have e8 : FloatKind.f64.format.order v8 (floatOfInt FloatKind.f64 (sumZ (za ++ zb))) = some .eq := (Wh.of_can (by rw [cv8]; exact HS4.out) hv8).eqF HKS.out
              have hg := HG3'.out.below b8
              have ht := HG4'.out.below b8
              have HBE : Hid (Below w.heap.size w w8) := Lib.hid (HB5.out.trans ((HB7.out.trans (b8.mono HB7.out.size)).mono HB5.out.size))
              clear cv8 b8
              clear g0 g1 g2 g3 g4 g5 g6 g7 gl t0 t1 t2 t3 t4 t5 t6 t7 tl
              have g0 := hg.cell 0 _ rfl
              have g1 := hg.cell 1 _ rfl
              have g2 := hg.cell 2 _ rfl
              have g3 := hg.cell 3 _ rfl
              have g4 := hg.cell 4 _ rfl
              have g5 := hg.cell 5 _ rfl
              have g6 := hg.cell 6 _ rfl
              have g7 := hg.cell 7 _ rfl
              have gl := hg.lt
              have t0 := ht.cell 0 _ rfl
              have t1 := ht.cell 1 _ rfl
              have t2 := ht.cell 2 _ rfl
              have t3 := ht.cell 3 _ rfl
              have t4 := ht.cell 4 _ rfl
              have t5 := ht.cell 5 _ rfl
              have t6 := ht.cell 6 _ rfl
              have t7 := ht.cell 7 _ rfl
              have tl := ht.lt
              clear hg ht
              go_wp2_with fail
              go_ret
              exact ⟨rfl, HBE.out⟩
end Go.Proofs.Ytffibfnagoagcaa
