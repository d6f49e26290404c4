/- Contracts: Run of the program. -/
import Derived.Test.YtpeijhlheencnaaChkR
namespace Go.Proofs.Ytpeijhlheencnaa
open Go.RowKit
set_option maxRecDepth 100000
set_option linter.unusedVariables false

theorem BlkL.keep {w w' : World} {b B : Nat} {xs : List Value} (h : BlkL w b xs) (hb : Below B w w') (hlt : b < B) : BlkL w' b xs :=
  ⟨Nat.lt_of_lt_of_le h.lt hb.size, fun i v hv => (hb.cell (p := ⟨b, i, none⟩) hlt).trans (h.cell i v hv), fun i hi => (hb.frozen (p := ⟨b, i, none⟩) hlt).trans (h.froz i hi)⟩

abbrev cast2 (L : List (Nat × Nat)) : List (Int × Int) := L.map fun a => ((a.1 : Int), (a.2 : Int))
/-- The answer to ask i. -/
def ansC (T Tau tat : Nat) (L : List (Nat × Nat)) (i : Nat) : List Value :=
  [.bool (grB T Tau (tatAt T Tau tat (L.take i)) (L.getD i (0, 0)).1 (L.getD i (0, 0)).2), .int .i64 (tatV T Tau (tatAt T Tau tat (L.take i)) (L.getD i (0, 0)).1 (L.getD i (0, 0)).2 : Nat),
   .int .i64 (wtV T Tau (tatAt T Tau tat (L.take i)) (L.getD i (0, 0)).1 (L.getD i (0, 0)).2 : Nat), .int .i64 (leftV T Tau (tatV T Tau (tatAt T Tau tat (L.take i)) (L.getD i (0, 0)).1 (L.getD i (0, 0)).2) (L.getD i (0, 0)).1 : Nat)]
def runC (T Tau tat : Nat) (L : List (Nat × Nat)) : Nat → List Value
  | 0 => []
  | k + 1 => runC T Tau tat L k ++ ansC T Tau tat L k
theorem runC_len (T Tau tat : Nat) (L : List (Nat × Nat)) (k : Nat) : (runC T Tau tat L k).length = k * 4 := by
  induction k with
  | zero => rfl
  | succ k ih => simp [runC, ih, ansC]; omega
theorem runC_at (T Tau tat : Nat) (L : List (Nat × Nat)) (k i j : Nat) (hi : i < k) (hj : j < 4) : (runC T Tau tat L k)[i * 4 + j]? = (ansC T Tau tat L i)[j]? := by
  induction k with
  | zero => omega
  | succ k ih =>
    rw [runC]
    rcases Nat.lt_or_ge i k with h | h
    · rw [List.getElem?_append_left (by rw [runC_len]; omega), ih h]
    · obtain rfl : i = k := by omega
      rw [List.getElem?_append_right (by rw [runC_len]; omega), runC_len]
      congr 1; omega
theorem tatAt_take (T Tau tat : Nat) (L : List (Nat × Nat)) (i : Nat) (h : i < L.length) : tatAt T Tau tat (L.take (i + 1)) = tatV T Tau (tatAt T Tau tat (L.take i)) (L.getD i (0, 0)).1 (L.getD i (0, 0)).2 := by
  rw [List.take_succ_eq_append_getElem h, tatAt_snoc]
  simp [List.getD_eq_getElem?_getD, h]
theorem ans_info : (Try.prog.info? 37).map (fun i => (i.zero, i.size, i.bytes)) = some (some (.agg #[.bool false, .int .i64 0, .int .i64 0, .int .i64 0]), 4, 32) := by kernel_rfl
theorem ans5_info : (Try.prog.info? 38).map (fun i => (i.zero, i.size, i.bytes)) = some (some (.agg #[.bool false, .int .i64 0, .int .i64 0, .int .i64 0]), 4, 32) := by kernel_rfl
theorem cast_at (L : List (Nat × Nat)) (i : Nat) (h : i < L.length) : (cast2 L).getD i (0, 0) = (((L.getD i (0, 0)).1 : Int), ((L.getD i (0, 0)).2 : Int)) := by
  simp [List.getD_eq_getElem?_getD, h]

theorem grun_err (w : World) (T Tau tat : Int) (A : Option Addr) (n c : Nat) (er : Int) (her : (er != 0) = true)
    (HC : Hid (∀ w', Below w.heap.size w w' → Calls Try.prog 27 #[.agg #[.int .i64 T, .int .i64 Tau], .int .i64 tat, .slice A n c] w' (ValEnd w' (.int .i64 er)))) :
    Calls Try.prog 8 #[.agg #[.int .i64 T, .int .i64 Tau], .int .i64 tat, .slice A n c] w (ValEnd w (.tuple #[.slice none 0 0, .int .i64 er])) := by
  have B0 := Lib.hid ((Below.refl w.heap.size w).alloc (Nat.le_refl _) (.cells #[.int .i64 T, .int .i64 Tau] 23))
  go_enter Try.func8, Try.ntmps8
  go_wp2_with fail
  with_reducible refine (HC.out _ B0.out).mono ?_
  rintro e w1 ⟨rfl, hb⟩
  have HB := Lib.hid (B0.out.trans (hb.mono (by simp)))
  clear hb
  go_wp2
  go_ret2
  exact ⟨rfl, HB.out⟩

def RunInv (w : World) (T Tau tat : Nat) (L : List (Nat × Nat)) (n : Nat) (E : TypeId) (tv ov iv : Value) (wr : World) : Prop :=
  ∃ (i c t : Nat) (A : Option Addr), i ≤ n ∧ iv = .int .i64 (i : Int) ∧ tv = .int .i64 (t : Int) ∧ t = tatAt T Tau tat (L.take i) ∧ t ≤ 4611686018427387903 ∧ ov = .slice A i c ∧ OwnC wr (w.heap.size + 1) E 4 A i c (runC T Tau tat L i) ∧
    BlkL wr w.heap.size [.int .i64 (T : Int), .int .i64 (Tau : Int)] ∧ Below w.heap.size w wr ∧ w.heap.size + 1 ≤ wr.heap.size

set_option maxHeartbeats 3200000 in
theorem grun_good (w : World) (T Tau tat : Nat) (B : Nat) (A : Option Addr) (n c : Nat) (L : List (Nat × Nat)) (h : ArgC w B 2 A n c (F2 (cast2 L))) (hB : B ≤ w.heap.size) (hn : n ≤ 4096)
    (hT : 1 ≤ T) (hT2 : T ≤ 4611686018427387903) (hU : Tau ≤ 4611686018427387903) (ht : tat ≤ 4611686018427387903) (hL : ∀ a ∈ L, a.1 ≤ 4611686018427387903 ∧ a.2 ≤ 4611686018427387903)
    (HC : Hid (∀ w', Below w.heap.size w w' → Calls Try.prog 27 #[.agg #[.int .i64 (T : Int), .int .i64 (Tau : Int)], .int .i64 (tat : Int), .slice A n c] w' (ValEnd w' (.int .i64 0)))) :
    Calls Try.prog 8 #[.agg #[.int .i64 (T : Int), .int .i64 (Tau : Int)], .int .i64 (tat : Int), .slice A n c] w fun e w' => ∃ A' c', e = .returned (.tuple #[.slice A' n c', .int .i64 0]) ∧ OwnC w' w.heap.size 37 4 A' n c' (runC T Tau tat L n) ∧ Below w.heap.size w w' := by
  obtain ⟨i0, hi, hz0, hz1, hz2⟩ := info_parts ans_info
  have hln : L.length = n := by have := h.len; rw [F2_len] at this; simp at this; omega
  have HLN := Lib.hid hln
  have HL := Lib.hid hL
  have HA := Lib.hid (h.more hB)
  have hle := h.le
  have hcap := h.cap
  unfold maxLen at hcap
  have B0 := Lib.hid ((Below.refl w.heap.size w).alloc (Nat.le_refl _) (.cells #[.int .i64 (T : Int), .int .i64 (Tau : Int)] 23))
  have K0 := Lib.hid (BlkL.new w [.int .i64 (T : Int), .int .i64 (Tau : Int)] 23)
  clear h hln hL
  go_enter Try.func8, Try.ntmps8
  go_wp2_with fail
  with_reducible refine (HC.out _ B0.out).mono ?_
  rintro e w1 ⟨rfl, hb⟩
  simp only [World.size_alloc] at hb
  have HB1 := Lib.hid (B0.out.trans (hb.mono (by omega)))
  have hz1' : w.heap.size + 1 ≤ w1.heap.size := by have := hb.size; simpa using this
  have K1 := Lib.hid (K0.out.keep hb (by omega))
  clear hb B0 K0
  go_wp2_with (refine wpList_make_own _ rfl (.const (.int .i64 0)) (.tmp 21) _ rfl (w.heap.size + 1) 37 i0 _ 4 Try.underlying28 hi hz0 hz1 .i64 .i64 _ n rfl rfl rfl (by rw [hz2]; omega) (by unfold maxLen; omega) hz1' ?_)
  intro w2 hown2 hgrow2
  have hb2 : Below (w.heap.size + 1) w1 w2 := (Below.refl _ _).grown hgrow2 hz1' (by simp)
  have HO2 : Hid (OwnC w2 (w.heap.size + 1) 37 4 (some ⟨w1.heap.size, 0, none⟩) 0 n []) := Lib.hid hown2
  have HB2 := Lib.hid (HB1.out.trans (hb2.mono (by omega)))
  have K2 := Lib.hid (K1.out.keep hb2 (by omega))
  have hz2' : w.heap.size + 1 ≤ w2.heap.size := Nat.le_trans hz1' hb2.size
  clear hown2 hgrow2 hb2 HB1 K1
  go_wp2
  go_loopw [1, 9, 25] (fun tv ov iv wr => RunInv w T Tau tat L n 37 tv ov iv wr) (fun _ _ iv _ => n - (intOf iv).toNat)
  case atStart => exact ⟨0, n, tat, _, Nat.zero_le _, rfl, rfl, rfl, ht, rfl, HO2.out, K2.out, HB2.out, hz2'⟩
  case round =>
    obtain ⟨i, cc, t, C, hi', rfl, rfl, hte, htl, rfl, hown, hk, hbel, hsz⟩ := hrel
    clear HO2 K2 HB2
    have HOWN := Lib.hid hown
    have HBEL := Lib.hid hbel
    have HK := Lib.hid hk
    have HTE := Lib.hid hte
    have hAk := HA.out.below hbel
    have l0 := hk.cell 0 _ rfl
    have l1 := hk.cell 1 _ rfl
    have zl := hk.lt
    clear hown hbel hk hte
    rcases Nat.lt_or_ge i n with h1 | h1
    · obtain ⟨b, off, rfl, _, hc⟩ := hAk.at_ (by omega)
      have hil : i < L.length := by rw [HLN.out]; exact h1
      have hf := F2_at (cast2 L) i (by simpa using hil)
      rw [cast_at L i hil] at hf
      have hc0 := (hc (i * 2) (by omega)).trans hf.1
      have hc1 := (hc (i * 2 + 1) (by omega)).trans hf.2
      have hm : L.getD i (0, 0) ∈ L := by
        rw [List.getD_eq_getElem?_getD, List.getElem?_eq_getElem hil]; exact List.getElem_mem hil
      have hbd := HL.out _ hm
      have htk := tatAt_take T Tau tat L i hil
      have hrc : runC T Tau tat L (i + 1) = runC T Tau tat L i ++ ansC T Tau tat L i := rfl
      unfold ansC at hrc
      rw [← HTE.out] at htk hrc
      clear hc hf hAk hm
      generalize L.getD i (0, 0) = a at hc0 hc1 hbd htk hrc
      obtain ⟨x, y⟩ := a
      simp only at hc0 hc1 hbd htk hrc
      have hc1 : wr.cell? ⟨b, off + i * 2 + 1, none⟩ = some (.int .i64 (y : Int)) := hc1
      have HD := Lib.hid (gdecide_any (wr.alloc (.cells #[.int .i64 (x : Int), .int .i64 (y : Int)] 40)) T Tau t x y hT hT2 hU htl hbd.1 hbd.2)
      have htl2 := tatV_le (n := y) (Tau := Tau) hT htl hbd.1
      have HTK := Lib.hid htk
      have HRC := Lib.hid hrc
      unfold decV at HD
      clear htk hrc
      generalize grB T Tau t x y = g at *
      generalize leftV T Tau (tatV T Tau t x y) x = lf at *
      generalize tatV T Tau t x y = t2 at *
      generalize wtV T Tau t x y = wt at *
      have b1 := (Below.refl (w.heap.size + 1) wr).alloc hsz (.cells #[.int .i64 (x : Int), .int .i64 (y : Int)] 40)
      have ho1 := HOWN.out.below ((Below.refl wr.heap.size wr).alloc (Nat.le_refl _) (.cells #[.int .i64 (x : Int), .int .i64 (y : Int)] 40))
      go_wp2_with fail
      with_reducible refine HD.out.mono ?_
      rintro e w3 ⟨rfl, hb3⟩
      have b3 := (b1.trans (hb3.mono (by simp; omega)))
      have hs3 := b3.size
      have hs3' := Nat.le_trans hsz hs3
      have ho3 := ho1.below hb3
      have b4 := ((Below.refl w3.heap.size w3).alloc (Nat.le_refl _) (.cells #[.bool g, .int .i64 (t2 : Int), .int .i64 (wt : Int), .int .i64 (lf : Int)] 37)).alloc (by simp) (.cells #[.bool g, .int .i64 (t2 : Int), .int .i64 (wt : Int), .int .i64 (lf : Int)] 37)
      have kt := BlkL.new (w3.alloc (.cells #[.bool g, .int .i64 (t2 : Int), .int .i64 (wt : Int), .int .i64 (lf : Int)] 37)) [.bool g, .int .i64 (t2 : Int), .int .i64 (wt : Int), .int .i64 (lf : Int)] 37
      simp only [World.size_alloc] at kt
      have HKT := Lib.hid kt
      have HO4 := Lib.hid (ho3.below b4)
      have hb5 := b3.trans (b4.mono (by omega))
      have HB5 := Lib.hid hb5
      clear b1 ho1 hb3 b3 ho3 b4 kt HD hb5 l0 l1
      go_wp2_with (refine wpList_append_row rfl (.tmp 38) (.tmp 40) 28 rfl (w.heap.size + 1) 37 _ 4 32 Try.underlying28 ans_info rfl (by omega) C i cc (runC T Tau tat L i) rfl HO4.out (w3.heap.size + 1) 1 [.bool g, .int .i64 (t2 : Int), .int .i64 (wt : Int), .int .i64 (lf : Int)] rfl rfl HKT.out.cell (by simp [Value.oneCell']) (by unfold maxLen; omega) (by omega) (by simp; omega) ?_)
      intro A2 c2 w5 ho5 hb6
      have ho6 : OwnC w5 (w.heap.size + 1) 37 4 A2 (i + 1) c2 (runC T Tau tat L (i + 1)) := by rw [HRC.out]; exact ho5
      have HO6 := Lib.hid ho6
      have hb7 := HB5.out.trans hb6
      have HK7 := Lib.hid (HK.out.keep hb7 (by omega))
      have HB7 := Lib.hid (HBEL.out.trans (hb7.mono (by omega)))
      have hs7 := Nat.le_trans hsz hb7.size
      clear ho5 ho6 hb6 hb7
      go_wp2
      go_roundw
      case rel => exact ⟨i + 1, _, t2, _, by omega, by go_num, rfl, HTK.out.symm, htl2, rfl, HO6.out, HK7.out, HB7.out, hs7⟩
      case measure => simp [intOf]; omega
    · obtain rfl : i = n := by omega
      clear l0 l1
      go_wp2
      go_ret2
      exact ⟨_, _, rfl, HOWN.out.mono (by omega), HBEL.out⟩
end Go.Proofs.Ytpeijhlheencnaa
