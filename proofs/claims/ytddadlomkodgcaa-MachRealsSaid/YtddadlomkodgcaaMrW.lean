/- The law MachReals: its walk. -/
import Derived.Test.YtddadlomkodgcaaMrG
import Derived.Outline
namespace Go.Proofs.Ytddadlomkodgcaa
open Go.RowKit
set_option maxRecDepth 100000
set_option linter.unusedVariables false

theorem real_good_all (w : World) (B b bw d dw n : Nat) (wr : World) (i : Nat) (ws : List Nat) (clk : Int) (ln : Nat) (h : MrS w B b bw d dw n wr i ws clk ln) (hi : i ≤ 1000) (kd who word t : Int) (old new : Nat) :
    Calls Try.prog 13 #[.pointer (some ⟨b, 0, none⟩), .pointer (some ⟨d, 0, none⟩), .agg #[.int .u8 kd, .int .i64 who, .int .i64 word, .int .u64 (old : Int), .int .u64 (new : Int), .int .i64 t]] wr fun e w' => e = .returned (.bool true) ∧ ∃ ws' clk' ln', MrS w B b bw d dw n w' (i + 1) ws' clk' ln' := by
  by_cases h0 : kd = 0
  · subst h0; exact real_load w B b bw d dw n wr i ws clk ln h hi who word t old new
  · by_cases h1 : kd = 1
    · subst h1; exact real_swap w B b bw d dw n wr i ws clk ln h hi who word t old new
    · by_cases h2 : kd = 2
      · subst h2; exact real_clock w B b bw d dw n wr i ws clk ln h hi who word t old new
      · by_cases h3 : kd = 3
        · subst h3; exact real_tick w B b bw d dw n wr i ws clk ln h hi who word t old new
        · exact (real_none wr _ _ kd who word t old new h0 h1 h2 h3).mono fun e w' ⟨a1, a2⟩ => by subst a2; exact ⟨a1, _, _, _, (h.alloc _).next⟩
theorem real_nil_all (w : World) (kd who word t : Int) (old new : Nat) :
    Calls Try.prog 13 #[.pointer none, .pointer none, .agg #[.int .u8 kd, .int .i64 who, .int .i64 word, .int .u64 (old : Int), .int .u64 (new : Int), .int .i64 t]] w fun e w' => e = .returned (.bool true) ∧ Below w.heap.size w w' := by
  have hb : ∀ (o : Obj) e w', (e = Ending.returned (.bool true) ∧ w' = w.alloc o) → e = .returned (.bool true) ∧ Below w.heap.size w w' := fun o e w' ⟨a1, a2⟩ => by subst a2; exact ⟨a1, (Below.refl _ w).alloc (Nat.le_refl _) _⟩
  by_cases h0 : kd = 0
  · subst h0; exact (real_nil_load w who word t old new).mono (hb _)
  · by_cases h1 : kd = 1
    · subst h1; exact (real_nil_swap w who word t old new).mono (hb _)
    · by_cases h2 : kd = 2
      · subst h2; exact (real_nil_clock w who word t old new).mono (hb _)
      · by_cases h3 : kd = 3
        · subst h3; exact (real_nil_tick w who word t old new).mono (hb _)
        · exact (real_none w _ _ kd who word t old new h0 h1 h2 h3).mono (hb _)
set_option maxHeartbeats 6400000 in
theorem machReals_nil (words : Int) (hwd : words < 1 ∨ 4096 < words) (A : Option Addr) (m cap : Nat) (l : List OpV) (w : World) (h : ArgC w w.heap.size 6 A m cap (FO l)) (hd : cap ≤ 2932031007402) (hpk : okOps l) :
    Calls Try.prog 3 #[.int .i64 words, .slice A m cap] w (ValEnd w (.bool true)) := by
  have hle := h.le
  have HAG := Lib.hid h
  have HPK := Lib.hid hpk
  have HC := Lib.hid (fun w => plain_bad w words hwd)
  have HD := Lib.hid (fun w => dmnew_bad w words hwd)
  clear h hpk hwd
  go_enter Try.func3, Try.ntmps3
  go_wp2_with fail
  with_reducible refine (awake11_any _).mono ?_
  rintro e w1 ⟨rfl, hB⟩
  have HB1 := Lib.hid hB
  clear hB
  go_wp2_with fail
  with_reducible refine (HC.out _).mono ?_
  rintro e w2 ⟨rfl, hw⟩
  subst hw
  go_wp2_with fail
  with_reducible refine (HD.out _).mono ?_
  rintro e w2 ⟨rfl, hw⟩
  subst hw
  clear HC HD
  go_wp2
  go_loopw [35] (fun iv wr => ∃ i : Nat, i ≤ m ∧ iv = .int .i64 ((i : Nat) : Int) ∧ Below w.heap.size w wr) (fun iv _ => m - (intOf iv).toNat)
  case atStart => exact ⟨0, Nat.zero_le _, rfl, HB1.out⟩
  case round =>
    obtain ⟨i, hi, rfl, hB⟩ := hrel
    clear HB1
    have hbs := hB.size
    rcases Nat.lt_or_ge i m with hin | hin
    · obtain ⟨bb, off, eA, hbb, hcc⟩ := op_at (HAG.out.below hB) hin
      have hx := okOps_at HPK.out i
      subst eA
      generalize l.getD i noOp = x at hcc hx
      have q0 := hcc 0 (by omega)
      have q1 := hcc 1 (by omega)
      have q2 := hcc 2 (by omega)
      have q3 := hcc 3 (by omega)
      have q4 := hcc 4 (by omega)
      have q5 := hcc 5 (by omega)
      clear hcc
      obtain ⟨xk, xwho, xword, xold, xnew, xn⟩ := x
      simp only [OpV.cells, List.getElem?_cons_zero, List.getElem?_cons_succ, Nat.add_zero] at q0 q1 q2 q3 q4 q5
      have hold := hx.old0
      have hnew := hx.new0
      simp only at hold hnew
      obtain ⟨ol, rfl⟩ := Int.eq_ofNat_of_zero_le hold
      obtain ⟨nw, rfl⟩ := Int.eq_ofNat_of_zero_le hnew
      clear hx
      have j0 : (0 : Int) ≤ (i : Int) := by omega
      have j1 : (i : Int) < (m : Int) := by omega
      have hbb2 : bb < wr.heap.size := by omega
      have HB := Lib.hid (hB.alloc hbs (.cells #[.int .u8 xk, .int .i64 xwho, .int .i64 xword, .int .u64 (ol : Int), .int .u64 (nw : Int), .int .i64 xn] 33))
      clear hB
      rcases Nat.lt_or_ge i 400 with h3 | h3
      · have h3' : (i : Int) < 400 := by omega
        have HR := Lib.hid (fun w => real_nil_all w xk xwho xword xn ol nw)
        go_wp2_with fail
        with_reducible refine (HR.out _).mono ?_
        rintro e w4 ⟨rfl, hb4⟩
        have HB4 := Lib.hid (HB.out.trans (hb4.mono HB.out.size))
        clear hb4
        go_wp2
        go_roundw
        case rel => exact ⟨i + 1, by omega, by go_num, HB4.out⟩
        case measure => simp [intOf]; omega
      · have h3' : ¬ (i : Int) < 400 := by omega
        go_wp2
        go_roundw
        case rel => exact ⟨i + 1, by omega, by go_num, HB.out⟩
        case measure => simp [intOf]; omega
    · obtain rfl : i = m := by omega
      have j1 : ¬ (i : Int) < (i : Int) := by omega
      have HB := Lib.hid hB
      clear hB
      go_wp2
      go_ret
      exact ⟨rfl, HB.out⟩
def MrInv (w : World) (B b bw d dw n m : Nat) (iv : Value) (wr : World) : Prop :=
  ∃ i j ws clk ln, i ≤ m ∧ j ≤ i ∧ j ≤ 400 ∧ iv = .int .i64 ((i : Nat) : Int) ∧ MrS w B b bw d dw n wr j ws clk ln
set_option maxHeartbeats 6400000 in
theorem machReals_good (n : Nat) (hn1 : 1 ≤ n) (hn2 : n ≤ 4096) (A : Option Addr) (m cap : Nat) (l : List OpV) (w : World) (h : ArgC w w.heap.size 6 A m cap (FO l)) (hd : cap ≤ 2932031007402) (hpk : okOps l) :
    Calls Try.prog 3 #[.int .i64 (n : Int), .slice A m cap] w (ValEnd w (.bool true)) := by
  have hle := h.le
  have HAG := Lib.hid h
  have HPK := Lib.hid hpk
  have HC := Lib.hid (fun w => plain_ok w n hn1 hn2)
  have HD := Lib.hid (fun w => dmnew_ok w n hn1 hn2)
  clear h hpk
  go_enter Try.func3, Try.ntmps3
  go_wp2_with fail
  with_reducible refine (awake11_any _).mono ?_
  rintro e w1 ⟨rfl, hB⟩
  have HB1 := Lib.hid hB
  have hs1 := hB.size
  clear hB
  go_wp2_with fail
  with_reducible refine (HC.out _).mono ?_
  rintro e w2 ⟨b, bw, rfl, hb, hbw, hr, hB⟩
  have HB2 := Lib.hid (HB1.out.trans (hB.mono hs1))
  have HR := Lib.hid hr
  have lb := hr.blk.lt
  have lbw := hr.wd.lt
  have hs2 := hB.size
  clear hB hr
  go_wp2_with fail
  with_reducible refine (HD.out _).mono ?_
  rintro e w3 ⟨d, dw, rfl, hdd, hdw, hm, hB⟩
  have hs3 := hB.size
  have S0 : Hid (MrS w w3.heap.size b bw d dw n w3 0 (List.replicate n 0) 0 0) :=
    Lib.hid ⟨HR.out.off (S := []) (Off.of_below hB) (by simp) (by simp), hm, Nat.le_refl _, by omega, HB2.out.trans (hB.mono (by omega)), by omega, by omega, by simp; omega, by simp; omega⟩
  clear HC HD HB1 HB2 HR hm hB
  generalize w3.heap.size = B at S0
  go_wp2
  go_loopw [35] (fun iv wr => MrInv w B b bw d dw n m iv wr) (fun iv _ => m - (intOf iv).toNat)
  case atStart => exact ⟨0, 0, _, _, _, Nat.zero_le _, Nat.le_refl _, by omega, rfl, S0.out⟩
  case round =>
    obtain ⟨i, j, ws, clk, ln, hi, hji, hj4, rfl, st⟩ := hrel
    clear S0
    have hbs := st.bel.size
    rcases Nat.lt_or_ge i m with hin | hin
    · obtain ⟨bb, off, eA, hbb, hcc⟩ := op_at (HAG.out.below st.bel) hin
      have hx := okOps_at HPK.out i
      subst eA
      generalize l.getD i noOp = x at hcc hx
      have q0 := hcc 0 (by omega)
      have q1 := hcc 1 (by omega)
      have q2 := hcc 2 (by omega)
      have q3 := hcc 3 (by omega)
      have q4 := hcc 4 (by omega)
      have q5 := hcc 5 (by omega)
      clear hcc
      obtain ⟨xk, xwho, xword, xold, xnew, xn⟩ := x
      simp only [OpV.cells, List.getElem?_cons_zero, List.getElem?_cons_succ, Nat.add_zero] at q0 q1 q2 q3 q4 q5
      have hold := hx.old0
      have hnew := hx.new0
      simp only at hold hnew
      obtain ⟨ol, rfl⟩ := Int.eq_ofNat_of_zero_le hold
      obtain ⟨nw, rfl⟩ := Int.eq_ofNat_of_zero_le hnew
      clear hx
      have j0 : (0 : Int) ≤ (i : Int) := by omega
      have j1 : (i : Int) < (m : Int) := by omega
      have hbb2 : bb < wr.heap.size := by omega
      have ST1 := Lib.hid (st.alloc (.cells #[.int .u8 xk, .int .i64 xwho, .int .i64 xword, .int .u64 (ol : Int), .int .u64 (nw : Int), .int .i64 xn] 33))
      clear st
      rcases Nat.lt_or_ge i 400 with h3 | h3
      · have h3' : (i : Int) < 400 := by omega
        have HR := Lib.hid (real_good_all w B b bw d dw n _ j ws clk ln ST1.out (by omega) xk xwho xword xn ol nw)
        go_wp2_with fail
        with_reducible refine HR.out.mono ?_
        rintro e w4 ⟨rfl, ws', clk', ln', st4⟩
        have ST4 := Lib.hid st4
        clear st4
        go_wp2
        go_roundw
        case rel => exact ⟨i + 1, j + 1, ws', clk', ln', by omega, by omega, by omega, by go_num, ST4.out⟩
        case measure => simp [intOf]; omega
      · have h3' : ¬ (i : Int) < 400 := by omega
        go_wp2
        go_roundw
        case rel => exact ⟨i + 1, j, ws, clk, ln, by omega, by omega, hj4, by go_num, ST1.out⟩
        case measure => simp [intOf]; omega
    · obtain rfl : i = m := by omega
      have j1 : ¬ (i : Int) < (i : Int) := by omega
      have ST1 := Lib.hid st
      clear st
      go_wp2
      go_ret
      exact ⟨rfl, ST1.out.bel⟩
theorem machReals_walk (words : Int) (A : Option Addr) (m cap : Nat) (l : List OpV) (w : World) (h : ArgC w w.heap.size 6 A m cap (FO l)) (hd : cap ≤ 2932031007402) (hpk : okOps l) :
    Calls Try.prog 3 #[.int .i64 words, .slice A m cap] w (ValEnd w (.bool true)) := by
  by_cases h1 : words < 1 ∨ 4096 < words
  · exact machReals_nil words h1 A m cap l w h hd hpk
  · obtain ⟨n, rfl⟩ := Int.eq_ofNat_of_zero_le (show 0 ≤ words by omega)
    exact machReals_good n (by omega) (by omega) A m cap l w h hd hpk
end Go.Proofs.Ytddadlomkodgcaa
