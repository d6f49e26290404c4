/- The law MeterBad: its walk. -/
import Derived.Test.YtffibfnagoagcaaMetP
import Derived.Test.YtffibfnagoagcaaArg
import Derived.RegionTactic
import Derived.BigRegion
import Derived.Outline
import Derived.Deep.DeepCutAuto
namespace Go.Proofs.Ytffibfnagoagcaa
open Go.RowKit
set_option maxRecDepth 100000
set_option linter.unusedVariables false

theorem nan_any (w : World) : Calls Try.prog 31 #[] w fun e w' => e = .returned (.float .f64 nanV) ∧ w = w' := by
  go_enter Try.func31, Try.ntmps31
  go_wp2
  rw [run_callFunc_extern Try.func41 (by kernel_rfl) (by kernel_rfl) (by kernel_rfl) (e := Extern.MathFloatBits.float64frombits) (by kernel_rfl), show (9221120237041090561 : Int) = ((9221120237041090561 : Nat) : Int) from rfl, run_f64from]
  simp only [Result.andThen]
  rw [Oper.upon_value]
  go_wp2
  go_ret
  exact ⟨rfl, rfl⟩
/-- Figures with more that count as bad. -/
def addBad (c : MV) (k : Int) : MV := { c with bad := c.bad + k }
theorem addC_bad (c : MV) (k : Int) (x : Nat) : addC (addBad c k) x = addBad (addC c x) k := by
  unfold addC addBad
  split <;> simp <;> omega
theorem addC_isnan (c : MV) (x : Nat) (h : nanB x = true) : addC c x = addBad c 1 := by
  unfold addC addBad
  rw [if_pos h]
theorem addBad_add (c : MV) (j k : Int) : addBad (addBad c j) k = addBad c (j + k) := by
  unfold addBad; simp; omega
theorem addAll_snoc (c : MV) (xs : List Nat) (x : Nat) : addAll c (xs ++ [x]) = addC (addAll c xs) (canB x) := by
  unfold addAll; rw [List.foldl_append]; rfl
/-- The list M is l with NaNs between. -/
structure BadL (l M : List Nat) : Prop where
  eq : addAll newM.can M = addBad (addAll newM.can l) ((M.length : Int) - l.length)
  fit : ∀ x ∈ M, x ≤ 18446744073709551615
  le : l.length ≤ M.length
theorem BadL.nil : BadL [] [] := ⟨rfl, by simp, Nat.le_refl _⟩
theorem BadL.both {l M : List Nat} (h : BadL l M) {x : Nat} (hx : x ≤ 18446744073709551615) : BadL (l ++ [x]) (M ++ [x]) := by
  refine ⟨?_, fun y hy => ?_, by have := h.le; simp; omega⟩
  · rw [addAll_snoc, addAll_snoc, h.eq, addC_bad]
    congr 1
    simp only [List.length_append, List.length_cons, List.length_nil]; omega
  · rcases List.mem_append.1 hy with hy | hy
    · exact h.fit y hy
    · simp only [List.mem_cons, List.not_mem_nil, or_false] at hy; subst hy; exact hx
theorem addAll_bd2 (l : List Nat) : ∀ c : MV, c.bad ≤ (addAll c l).bad ∧ (addAll c l).bad ≤ c.bad + l.length := by
  induction l with
  | nil => intro c; exact ⟨Int.le_refl _, by simp [addAll]⟩
  | cons x l ih =>
    intro c
    have h1 := ih (addC c (canB x))
    have h2 := (addC_n c (canB x)).2
    have e : addAll c (x :: l) = addAll (addC c (canB x)) l := rfl
    rw [e]
    simp only [List.length_cons]
    omega
theorem addAll_bd (l : List Nat) : 0 ≤ (addAll newM.can l).bad ∧ (addAll newM.can l).bad ≤ l.length := by
  have := addAll_bd2 l newM.can
  have e : newM.can.bad = 0 := rfl
  omega
theorem BadL.nan {l M : List Nat} (h : BadL l M) : BadL l (M ++ [nanV]) := by
  refine ⟨?_, fun y hy => ?_, by have := h.le; simp; omega⟩
  · rw [addAll_snoc, can_nan nan_nanV, h.eq, addC_isnan _ _ nan_nanV, addBad_add]
    congr 1
    simp only [List.length_append, List.length_cons, List.length_nil]; omega
  · rcases List.mem_append.1 hy with hy | hy
    · exact h.fit y hy
    · simp only [List.mem_cons, List.not_mem_nil, or_false] at hy; subst hy; decide
/-- Two own lists of floats side by side. -/
structure TwoF (w wr : World) (Al : Option Addr) (nl cl : Nat) (l : List Nat) (Am : Option Addr) (nm cm : Nat) (M : List Nat) : Prop where
  bel : Below w.heap.size w wr
  l : OwnV wr w.heap.size Al nl cl (Fl l)
  m : OwnV wr w.heap.size Am nm cm (Fl M)
  dis : ∀ y ∈ bkV Al, y ∉ bkV Am
section
variable {w wr w' : World} {Al Am A' : Option Addr} {nl cl nm cm n' c' : Nat} {l M l' : List Nat}
theorem TwoF.below (h : TwoF w wr Al nl cl l Am nm cm M) (hb : Below wr.heap.size wr w') : TwoF w w' Al nl cl l Am nm cm M :=
  ⟨h.bel.trans (hb.mono h.bel.size), h.l.below hb, h.m.below hb, h.dis⟩
theorem TwoF.appL (h : TwoF w wr Al nl cl l Am nm cm M) (ho : OwnV w' w.heap.size A' n' c' (Fl l')) (hf : Off (bkV Al) wr w') {z : Nat} (hx : ∀ y ∈ bkV A', y ∈ bkV Al ∨ y = z ∧ y < w'.heap.size) (hz : wr.heap.size ≤ z) : TwoF w w' A' n' c' l' Am nm cm M :=
  ⟨h.bel.trans (hf.below h.bel.size (fun y hy => (h.l.lt y hy).1)), ho, h.m.off hf (fun y hy hm => h.dis y hm hy), fun y hy hm => by
    rcases hx y hy with e | e
    · exact h.dis y e hm
    · have := (h.m.lt y hm).2; omega⟩
theorem TwoF.appM (h : TwoF w wr Al nl cl l Am nm cm M) (ho : OwnV w' w.heap.size A' n' c' (Fl l')) (hf : Off (bkV Am) wr w') {z : Nat} (hx : ∀ y ∈ bkV A', y ∈ bkV Am ∨ y = z ∧ y < w'.heap.size) (hz : wr.heap.size ≤ z) : TwoF w w' Al nl cl l A' n' c' l' :=
  ⟨h.bel.trans (hf.below h.bel.size (fun y hy => (h.m.lt y hy).1)), h.l.off hf (fun y hy hm => h.dis y hy hm), ho, fun y hy hm => by
    rcases hx y hm with e | e
    · exact h.dis y hy e
    · have := (h.l.lt y hy).2; omega⟩
end
def MbR (w : World) (m1 : Nat) (xs : List Nat) (lv mv iv : Value) (wr : World) : Prop :=
  ∃ (k : Nat) (Al : Option Addr) (cl : Nat) (Am : Option Addr) (nm cm : Nat) (M : List Nat), k ≤ m1 ∧ iv = .int .i64 (k : Int) ∧ lv = .slice Al k cl ∧ mv = .slice Am nm cm ∧ TwoF w wr Al k cl (xs.take k) Am nm cm M ∧ nm ≤ 3 * k ∧ BadL (xs.take k) M
def MbI (w : World) (Al : Option Addr) (nl cl : Nat) (l : List Nat) (M0 : List Nat) (n0 r : Nat) (x : Nat) (mv iv : Value) (wr : World) : Prop :=
  ∃ (j : Nat) (Am : Option Addr) (cm : Nat) (M : List Nat), j ≤ r ∧ iv = .int .u8 (j : Int) ∧ mv = .slice Am (n0 + j) cm ∧ TwoF w wr Al (nl + 1) cl (l ++ [x]) Am (n0 + j) cm M ∧ BadL l M
set_option maxHeartbeats 6400000 in
theorem meterBad_g (w : World) (A A2 : Option Addr) (n c n2 c2 : Nat) (xs zs : List Nat) (h : ArgU w w.heap.size A n c xs) (h2 : Arg w w.heap.size A2 n2 c2 zs) (hn : c ≤ 17592186043904)
    (HAW : ∀ w, Calls Try.prog 11 #[] w (ValEnd w (.bool true))) :
    Calls Try.prog 10 #[.slice A n c, .slice A2 n2 c2] w (ValEnd w (.bool true)) := by
  have hle := h.le
  have hle2 := h2.le
  have hcp := h2.cap
  unfold maxLen at hcp
  obtain ⟨m1, hm1⟩ : ∃ m, m = min n 300 := ⟨_, rfl⟩
  obtain ⟨m2, hm2⟩ : ∃ m, m = min n2 300 := ⟨_, rfl⟩
  have HA := Lib.hid (h.to_ (m := m1) (by omega))
  have HP := Lib.hid h2
  have HM := Lib.hid (And.intro hm1 hm2)
  have hm1b : m1 ≤ 300 := by omega
  have hm2b : m2 ≤ 300 := by omega
  have hm2n : m2 ≤ n2 := by omega
  clear h h2 hm1 hm2
  go_enter Try.func10, Try.ntmps10
  go_wp2_with fail
  refine (HAW _).mono ?_
  rintro e w1 ⟨rfl, hb1⟩
  have HB1 := Lib.hid hb1
  clear hb1
  go_upto_region 3 with (fail)
  go_cut [0, 1] (fun s0 s1 wx => s0 = .slice A m1 c ∧ s1 = .slice A2 m2 c2 ∧ Below w.heap.size w wx)
  case first =>
    have e1 := HM.out.1
    have e2 := HM.out.2
    by_cases d1 : n ≤ 300
    · by_cases d2 : n2 ≤ 300
      · obtain rfl : m1 = n := by omega
        obtain rfl : m2 = n2 := by omega
        clear e1 e2
        go_region
        go_wp2_with fail
        go_meet
        exact ⟨rfl, rfl, HB1.out.drew⟩
      · obtain rfl : m1 = n := by omega
        obtain rfl : m2 = 300 := by omega
        clear e1 e2
        have d3 : 300 < n2 := by omega
        have d4 : (300 : Int) < (n2 : Int) := by omega
        go_region
        go_wp2_with fail
        go_meet
        exact ⟨rfl, rfl, HB1.out.drew⟩
    · by_cases d2 : n2 ≤ 300
      · obtain rfl : m1 = 300 := by omega
        obtain rfl : m2 = n2 := by omega
        clear e1 e2
        have d3 : 300 < n := by omega
        have d4 : (300 : Int) < (n : Int) := by omega
        go_region
        go_wp2_with fail
        go_meet
        exact ⟨rfl, rfl, HB1.out.drew⟩
      · obtain rfl : m1 = 300 := by omega
        obtain rfl : m2 = 300 := by omega
        clear e1 e2
        have d3 : 300 < n2 := by omega
        have d4 : (300 : Int) < (n2 : Int) := by omega
        have d5 : 300 < n := by omega
        have d6 : (300 : Int) < (n : Int) := by omega
        go_region
        go_wp2_with fail
        go_meet
        exact ⟨rfl, rfl, HB1.out.drew⟩
  case rest =>
    obtain ⟨rfl, rfl, hbc⟩ := hcut
    have hsz := hbc.size
    have HBC := Lib.hid hbc
    have hxl := HA.out.len
    have HXL := Lib.hid hxl
    clear hbc HM HB1 hxl
    go_wp2
    go_loopw [5, 6, 28] (fun lv mv iv wr => MbR w m1 xs lv mv iv wr) (fun _ _ iv _ => m1 - (intOf iv).toNat)
    case atStart => exact ⟨0, none, 0, none, 0, 0, [], Nat.zero_le _, rfl, rfl, rfl, ⟨HBC.out, OwnV.nil _ _, OwnV.nil _ _, fun y hy => by simp [bkV] at hy⟩, Nat.le_refl _, BadL.nil⟩
    case round =>
      obtain ⟨k, Al, cl, Am, nm, cm, M, hk, rfl, rfl, rfl, ht, hnm, hbd⟩ := hrel
      rcases Nat.lt_or_ge k m1 with h1 | h1
      · have hAk := HA.out.below ht.bel
        obtain ⟨bb, off, rfl, hB, hcell⟩ := hAk.at_ (by omega)
        have q := hcell k h1
        have hxl : (xs.take m1).length = m1 := HXL.out
        have hx := HA.out.fit _ (List.getElem_mem (show k < (xs.take m1).length by omega))
        have hd0 : (xs.take m1).getD k 0 = (xs.take m1)[k]'(by omega) := by rw [List.getD_eq_getElem?_getD, List.getElem?_eq_getElem (by omega)]; rfl
        have htk : xs.take (k + 1) = xs.take k ++ [(xs.take m1).getD k 0] := by
          have hk2 : k < xs.length := by rw [List.length_take] at hxl; omega
          rw [List.take_succ_eq_append_getElem hk2, hd0]
          simp
        rw [hd0] at q htk
        generalize (xs.take m1)[k]'(by omega) = x at q htk hx
        have HTK := Lib.hid htk
        have hT1 := ht.below ((Below.refl wr.heap.size wr).alloc (Nat.le_refl _) (.cells #[.float .f64 x] TF64))
        have HT1 := Lib.hid hT1
        have KP := Lib.hid (BlkL.new wr [.float .f64 x] TF64)
        have HBD := Lib.hid (And.intro hbd (And.intro hnm hx))
        have hwz := ht.bel.size
        have ij : (k : Int) < (m1 : Int) := by omega
        have ij0 : (0 : Int) ≤ (k : Int) := by omega
        have zr : ∃ r z : Nat, r ≤ 2 ∧ ((k < m2) → ∃ b2 o2, A2 = some ⟨b2, o2, none⟩ ∧ b2 < w.heap.size ∧ (z : Int) < 256 ∧ z % 3 = r ∧ ∀ W, Below w.heap.size w W → W.cell? ⟨b2, o2 + k, none⟩ = some (.int .u8 (z : Int))) := by
          by_cases hkm : k < m2
          · obtain ⟨b2, o2, e2, hb2, hc2⟩ := HP.out.at_ (by omega)
            refine ⟨zs.getD k 0 % 3, zs.getD k 0, by omega, fun _ => ⟨b2, o2, e2, hb2, by have := HP.out.lt k; omega, rfl, fun W hW => (hW.cell (p := ⟨b2, o2 + k, none⟩) hb2).trans (hc2 k (by omega))⟩⟩
          · exact ⟨0, 0, by omega, fun h => absurd h hkm⟩
        obtain ⟨r, z, hr2, hz⟩ := zr
        clear hAk hcell htk ht hbd hT1 hd0 hxl
        go_wp2_with fail
        with_reducible refine (of8_any _ _).mono ?_
        rintro e w2 ⟨rfl, rfl⟩
        go_wp2_with (refine wpList_append_f rfl (.tmp 33) (.tmp 36) rfl rfl HT1.out.l wr.heap.size 1 x rfl KP.out (by omega) (by simp; omega) ?_)
        intro A3 c3 w3 ho3 hf3 hx3
        have hT3 := HT1.out.appL ho3 hf3 hx3 (by simp)
        clear ho3 hf3 hx3 HT1 KP q
        have HT3 := Lib.hid hT3
        have h3z := hT3.bel.size
        clear hT3
        by_cases hkm : k < m2
        · obtain ⟨b2, o2, e2, hb2, hz256, hzr, hcz⟩ := hz hkm
          have HCZ := Lib.hid hcz
          subst e2
          have q2 := HCZ.out w3 HT3.out.bel
          have ik : (k : Int) < (m2 : Int) := by omega
          have hm3 : (z : Int) % 3 = (r : Int) := by omega
          have hm4 : (z : Int).tmod 3 = (r : Int) := by rw [Int.tmod_eq_emod_of_nonneg (by omega)]; exact hm3
          clear hz hcz
          have HZ := Lib.hid hzr
          clear hzr
          go_wp2_with fail
          go_loopw [6, 47] (fun mv jv wi => MbI w A3 k c3 (xs.take k) M nm r x mv jv wi) (fun _ jv _ => r - (intOf jv).toNat)
          case atStart => exact ⟨0, Am, cm, M, Nat.zero_le _, rfl, rfl, HT3.out, HBD.out.1⟩
          case round =>
            obtain ⟨j, Aj, cj, Mj, hj, rfl, rfl, htj, hbj⟩ := hrel
            rcases Nat.lt_or_ge j r with g1 | g1
            · have gj : (j : Int) < (r : Int) := by omega
              have hT4 := htj.below ((Below.refl wr.heap.size wr).alloc (Nat.le_refl _) (.cells #[.float .f64 nanV] TF64))
              have HT4 := Lib.hid hT4
              have KP4 := Lib.hid (BlkL.new wr [.float .f64 nanV] TF64)
              have h4z := htj.bel.size
              have HB4 := Lib.hid hbj
              have hnm3 := HBD.out.2.1
              clear hT4 htj hbj HT3 q2
              go_wp2_with fail
              with_reducible refine (nan_any _).mono ?_
              rintro e w4 ⟨rfl, rfl⟩
              go_wp2_with (refine wpList_append_f rfl (.tmp 49) (.tmp 51) rfl rfl HT4.out.m wr.heap.size 1 nanV rfl KP4.out (by omega) (by simp; omega) ?_)
              intro A5 c5 w5 ho5 hf5 hx5
              have HE : Hid (MbI w A3 k c3 (xs.take k) M nm r x (.slice A5 (nm + j + 1) c5) (.int .u8 ((j : Int) + 1)) w5) := Lib.hid ⟨j + 1, A5, c5, _, by omega, by go_num, rfl, HT4.out.appM ho5 hf5 hx5 (by simp), HB4.out.nan⟩
              clear ho5 hf5 hx5 HT4 KP4
              go_wp2
              go_roundw
              case rel => exact HE.out
              case measure => simp [intOf]; omega
            · obtain rfl : j = r := by omega
              have gj : ¬ (j : Int) < (j : Int) := by omega
              clear HT3 q2

              have hT5 := htj.below ((Below.refl wr.heap.size wr).alloc (Nat.le_refl _) (.cells #[.float .f64 x] TF64))
              have HT5 := Lib.hid hT5
              have KP5 := Lib.hid (BlkL.new wr [.float .f64 x] TF64)
              have h5z := htj.bel.size
              have HB5 := Lib.hid (And.intro hbj HBD.out.2)
              clear hT5
              go_wp2_with fail
              with_reducible refine (of8_any _ _).mono ?_
              rintro e w6 ⟨rfl, rfl⟩
              go_wp2_with (refine wpList_append_f rfl (.tmp 54) (.tmp 57) rfl rfl HT5.out.m wr.heap.size 1 x rfl KP5.out (by omega) (by simp; omega) ?_)
              intro A7 c7 w7 ho7 hf7 hx7
              have hT7 := HT5.out.appM ho7 hf7 hx7 (by simp)
              have HE : Hid (MbR w m1 xs (.slice A3 (k + 1) c3) (.slice A7 ((nm + j) + 1) c7) (.int .i64 ((k : Int) + 1)) w7) := Lib.hid ⟨k + 1, A3, c3, A7, _, c7, _, by omega, by go_num, rfl, rfl, by rw [HTK.out]; exact hT7, by have := HBD.out.2.1; omega, by rw [HTK.out]; exact HB5.out.1.both HBD.out.2.2⟩
              clear ho7 hf7 hx7 hT7 HT5 KP5
              go_wp2
              go_roundw
              case rel => exact HE.out
              case measure => simp [intOf]; omega
        · have ik : ¬ (k : Int) < (m2 : Int) := by omega
          clear hz

          have hT5 := HT3.out.below ((Below.refl w3.heap.size w3).alloc (Nat.le_refl _) (.cells #[.float .f64 x] TF64))
          have HT5 := Lib.hid hT5
          have KP5 := Lib.hid (BlkL.new w3 [.float .f64 x] TF64)
          have h5z := HT3.out.bel.size
          have HB5 := Lib.hid (And.intro HBD.out.1 HBD.out.2)
          clear hT5
          go_wp2_with fail
          with_reducible refine (of8_any _ _).mono ?_
          rintro e w6 ⟨rfl, rfl⟩
          go_wp2_with (refine wpList_append_f rfl (.tmp 54) (.tmp 57) rfl rfl HT5.out.m w3.heap.size 1 x rfl KP5.out (by omega) (by simp; omega) ?_)
          intro A7 c7 w7 ho7 hf7 hx7
          have hT7 := HT5.out.appM ho7 hf7 hx7 (by simp)
          have HE : Hid (MbR w m1 xs (.slice A3 (k + 1) c3) (.slice A7 (nm + 1) c7) (.int .i64 ((k : Int) + 1)) w7) := Lib.hid ⟨k + 1, A3, c3, A7, _, c7, _, by omega, by go_num, rfl, rfl, by rw [HTK.out]; exact hT7, by have := HBD.out.2.1; omega, by rw [HTK.out]; exact HB5.out.1.both HBD.out.2.2⟩
          clear ho7 hf7 hx7 hT7 HT5 KP5
          go_wp2
          go_roundw
          case rel => exact HE.out
          case measure => simp [intOf]; omega
      · obtain rfl : k = m1 := by omega
        have jn : ¬ (k : Int) < (k : Int) := by omega
        have HT := Lib.hid (And.intro ht (And.intro hnm hbd))
        clear ht hnm hbd
        have hl1 := HT.out.1.l.argF (fun x hx => HA.out.fit x hx)
        have HO1 := Lib.hid (ofP_any wr Al k cl (xs.take k) (hl1) (by omega))
        have hbad := addAll_bd (xs.take k)
        have hxl : (xs.take k).length = k := HXL.out
        rw [hxl] at hbad
        have hwz := HT.out.1.bel.size
        have nk0 := HT.out.2.1
        have ml : M.length = nm := by have := HT.out.1.m.len; rwa [Fl_len] at this
        have eqm := HT.out.2.2.eq
        rw [ml, hxl] at eqm
        have EQM := Lib.hid eqm
        have hnk : k ≤ nm := by have := HT.out.2.2.le; omega
        clear hl1 eqm hxl ml
        have kst : ∀ (a : Addr) (x : Nat) (w : World), (store a (.float .f64 x)).run Try.prog w = stored Try.prog w a (.float .f64 x) .plain := fun a x w => run_store _ _ _ _ _ rfl
        go_wp2_with fail
        with_reducible refine HO1.out.mono ?_
        rintro e w2 ⟨⟨n1, d1, s1, l1, lo1, hi1, me1, sp1⟩, rfl, ok1, can1, hb2⟩
        simp only [MV.val]
        have K1 := BlkL.new w2 [.int .i64 n1, .int .i64 d1, .float .f64 s1, .float .f64 l1, .float .f64 lo1, .float .f64 hi1, .float .f64 me1, .float .f64 sp1] 29
        have ht2 := (HT.out.1.below hb2).below ((Below.refl _ _).alloc (Nat.le_refl _) (.cells #[.int .i64 n1, .int .i64 d1, .float .f64 s1, .float .f64 l1, .float .f64 lo1, .float .f64 hi1, .float .f64 me1, .float .f64 sp1] 29))
        have HO2 := Lib.hid (ofP_any _ Am nm cm M (ht2.m.argF HT.out.2.2.fit) (by omega))
        have HT2 := Lib.hid ht2.bel
        have HK1 := Lib.hid K1
        have HC1 := Lib.hid (And.intro ok1 can1)
        clear HO1 HT K1 ht2 hb2 ok1 can1
        go_wp2_with fail
        with_reducible refine HO2.out.mono ?_
        rintro e w3 ⟨⟨n2', d2, s2, l2, lo2, hi2, me2, sp2⟩, rfl, ok2, can2, hb3⟩
        simp only [MV.val]
        have hk1 := HK1.out.below hb3
        have hd1 : d1 = (addAll newM.can (xs.take k)).bad := congrArg MV.bad HC1.out.2
        have hd2 : d2 = d1 + ((nm : Int) - k) := by
          have e1 : d2 = (addAll newM.can M).bad := congrArg MV.bad can2
          rw [e1, EQM.out, hd1]; rfl
        have hcan : (MV.mk n1 d1 s1 l1 lo1 hi1 me1 sp1).can = (MV.mk n2' d1 s2 l2 lo2 hi2 me2 sp2).can := by
          have e1 := HC1.out.2
          have e2 := can2
          rw [EQM.out, ← e1] at e2
          simp only [MV.can, addBad, MV.mk.injEq] at e2 ⊢
          obtain ⟨a1, a2, a3, a4, a5, a6, a7, a8⟩ := e2
          exact ⟨a1.symm, trivial, a3.symm, a4.symm, a5.symm, a6.symm, a7.symm, a8.symm⟩
        have hs0 := fun w => same8l_any w (MV.mk n2' d1 s2 l2 lo2 hi2 me2 sp2) _ ⟨ok2.sum, ok2.lost, ok2.low, ok2.high, ok2.mean, ok2.spr⟩ HC1.out.1 hcan.symm
        simp only [MV.val] at hs0
        have HS := Lib.hid hs0
        clear hs0
        have hb0 : 0 ≤ d1 ∧ d1 ≤ (k : Int) := by rw [hd1]; exact hbad
        have K2 := BlkL.new w3 [.int .i64 n2', .int .i64 d2, .float .f64 s2, .float .f64 l2, .float .f64 lo2, .float .f64 hi2, .float .f64 me2, .float .f64 sp2] 29
        have hk1' := hk1.alloc (.cells #[.int .i64 n2', .int .i64 d2, .float .f64 s2, .float .f64 l2, .float .f64 lo2, .float .f64 hi2, .float .f64 me2, .float .f64 sp2] 29)
        have HBE := Lib.hid (HT2.out.trans (hb3.mono HT2.out.size))
        have a0 := hk1.cell 0 _ rfl
        have a1 := hk1.cell 1 _ rfl
        have a2 := hk1.cell 2 _ rfl
        have a3 := hk1.cell 3 _ rfl
        have a4 := hk1.cell 4 _ rfl
        have a5 := hk1.cell 5 _ rfl
        have a6 := hk1.cell 6 _ rfl
        have a7 := hk1.cell 7 _ rfl
        have la := hk1.lt
        have hne : (d2 != d1 + ((nm : Int) - (k : Int))) = false := by rw [hd2]; simp
        have hkz : (k : Int) ≤ (nm : Int) := by omega
        have hkb : (k : Int) ≤ 300 := by omega
        have hnb : (nm : Int) ≤ 900 := by omega
        have hb01 := hb0.1
        have hb02 := hb0.2
        clear HO2 HK1 HC1 ok2 can2 hb3 hk1 hd1 hd2 hcan hbad hb0 hk1' EQM HBC HXL hnk nk0
        go_wp2_with fail
        with_reducible refine (HS.out _).mono ?_
        rintro e w4 ⟨rfl, hb4⟩
        go_wp2
        go_ret
        exact ⟨rfl, (HBE.out.alloc HBE.out.size _).trans (hb4.mono (by have := HBE.out.size; simp; omega))⟩
end Go.Proofs.Ytffibfnagoagcaa
