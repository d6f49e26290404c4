/- The law GcraBounds: its walk. -/
import Derived.Test.YtpeijhlheencnaaBndM
namespace Go.Proofs.Ytpeijhlheencnaa
open Go.RowKit
set_option maxRecDepth 100000
set_option linter.unusedVariables false

theorem rask_info : (Try.prog.info? 45).map (fun i => (i.zero, i.size, i.bytes)) = some (some (.agg #[.int .i64 0, .int .i64 0]), 2, 16) := by kernel_rfl
theorem F2_one (l : List (Int × Int)) : ∀ u ∈ F2 l, u.oneCell' = true := by
  intro u hu
  unfold F2 at hu
  obtain ⟨a, _, ha⟩ := List.mem_flatMap.1 hu
  simp only [List.mem_cons, List.not_mem_nil, or_false] at ha
  rcases ha with rfl | rfl <;> rfl
/-- The loop that makes the asks. -/
def NormInv (w : World) (l : List (Int × Int)) (m : Nat) (A : Option Addr) (c : Nat) (lim : List Value) (lv iv : Value) (wr : World) : Prop :=
  ∃ i : Nat, i ≤ m ∧ iv = .int .i64 (i : Int) ∧ lv = .int .i64 (lastL (l.take i) : Int) ∧ OwnC wr (w.heap.size + 1) 45 2 A m c (F2 (midL l i)) ∧ BlkL wr w.heap.size lim ∧ Below w.heap.size w wr ∧ w.heap.size + 1 ≤ wr.heap.size
/-- The loop that adds up. -/
def SumInv (w0 : World) (T Tau tat f t : Nat) (L : List (Nat × Nat)) (m : Nat) (lv av iv : Value) (wr : World) : Prop :=
  ∃ i S a Lf : Nat, i ≤ m ∧ iv = .int .i64 (i : Int) ∧ a = tatAt T Tau tat (L.take i) ∧ av = .int .i64 (a : Int) ∧ lv = .int .i64 (Lf : Int) ∧ Lf + S = withV T Tau (t - f) ∧ BdOk T f S a ∧ a ≤ 4611686018427387903 ∧ Below w0.heap.size w0 wr
section
variable {w : World} {B n c g : Nat} {T : TypeId} {P R : List (Int × Int)} {x y : Int}
theorem OwnC.pair (ho : OwnC w B T 2 (some ⟨g, 0, none⟩) n c (F2 (P ++ (x, y) :: R))) : w.cell? ⟨g, P.length * 2, none⟩ = some (.int .i64 x) ∧ w.cell? ⟨g, P.length * 2 + 1, none⟩ = some (.int .i64 y) := by
  have hl := ho.1
  rw [F2_len, List.length_append, List.length_cons] at hl
  have hf := F2_at (P ++ (x, y) :: R) P.length (by simp)
  have e : (P ++ (x, y) :: R).getD P.length (0, 0) = (x, y) := by simp [List.getD_eq_getElem?_getD]
  rw [e] at hf
  exact ⟨(World.ownsRow.cellAt (w := w) ho _ (by omega)).trans hf.1, (World.ownsRow.cellAt (w := w) ho _ (by omega)).trans hf.2⟩
theorem OwnC.set0 (ho : OwnC w B T 2 (some ⟨g, 0, none⟩) n c (F2 (P ++ (x, y) :: R))) (z : Int) : OwnC (w.setCell ⟨g, P.length * 2, none⟩ (.int .i64 z)) B T 2 (some ⟨g, 0, none⟩) n c (F2 (P ++ (z, y) :: R)) := by
  have := ho.stored (P.length * 2) (.int .i64 z)
  rwa [F2_set0] at this
theorem OwnC.set1 (ho : OwnC w B T 2 (some ⟨g, 0, none⟩) n c (F2 (P ++ (x, y) :: R))) (z : Int) : OwnC (w.setCell ⟨g, P.length * 2 + 1, none⟩ (.int .i64 z)) B T 2 (some ⟨g, 0, none⟩) n c (F2 (P ++ (x, z) :: R)) := by
  have := ho.stored (P.length * 2 + 1) (.int .i64 z)
  rwa [F2_set1] at this
end
theorem goodL_own {L : List (Nat × Nat)} (h : ∀ a ∈ L, a.1 ≤ 4611686018427387903 ∧ a.2 ≤ 4611686018427387903) : goodL (cast2 L) = true := by
  unfold goodL
  rw [List.all_eq_true]
  intro a ha
  obtain ⟨b, hb, rfl⟩ := List.mem_map.1 ha
  have := h b hb
  unfold okA
  rw [Bool.and_eq_true, isTick_iff, isTick_iff]
  simp only
  omega
theorem check_good {T Tau : Nat} (hT : 1 ≤ T) (hT2 : T ≤ 4611686018427387903) (hU : Tau ≤ 4611686018427387903) : checkV (T : Int) (Tau : Int) = 0 :=
  checkV_ok (by omega) (isTick_iff.2 (by omega)) (isTick_iff.2 (by omega))
theorem run_own (w : World) (T Tau tat : Nat) (B : Nat) (F : Option Addr) (n d : Nat) (L : List (Nat × Nat)) (h : ArgC w B 2 F n d (F2 (cast2 L))) (hB : B ≤ w.heap.size) (hn : n ≤ 4096)
    (hT : 1 ≤ T) (hT2 : T ≤ 4611686018427387903) (hU : Tau ≤ 4611686018427387903) (ht : tat ≤ 4611686018427387903) (hL : ∀ a ∈ L, a.1 ≤ 4611686018427387903 ∧ a.2 ≤ 4611686018427387903) :
    Calls Try.prog 8 #[.agg #[.int .i64 (T : Int), .int .i64 (Tau : Int)], .int .i64 (tat : Int), .slice F n d] w (RunEnd 37 0 n (runC T Tau tat L n) w) := by
  refine grun_good w T Tau tat B F n d L h hB hn hT hT2 hU ht hL (Lib.hid fun w2 hb => ?_)
  have h0 : chkV (T : Int) (Tau : Int) [(tat : Int)] = 0 := by
    unfold chkV
    rw [if_pos (by simp [isTick]; omega)]
    exact check_good hT hT2 hU
  have := checkRun_any w2 (T : Int) (Tau : Int) (tat : Int) w.heap.size F n d (cast2 L) ((h.more hB).below hb) hb.size (by omega) h0
  have e : chkE (cast2 L) n = 0 := by unfold chkE; rw [if_pos (goodL_own hL), if_neg (by omega)]
  rw [e] at this
  exact this
theorem with_good {T Tau f t : Nat} (hT : 1 ≤ T) (hT2 : T ≤ 4611686018427387903) (hU : Tau ≤ 4611686018427387903) (hft : f ≤ t) (htt : t ≤ 4611686018427387903) : dwithV (T : Int) (Tau : Int) ((t : Int) - (f : Int)) = .tuple #[.int .i64 (withV T Tau (t - f) : Int), .int .i64 0] := by
  unfold dwithV
  rw [if_neg (by rw [check_good hT hT2 hU, isTick_iff.2 (show 0 ≤ (t : Int) - f ∧ (t : Int) - f ≤ 4611686018427387903 by omega)]; simp)]
  have e : ((t : Int) - (f : Int)).toNat = t - f := by omega
  rw [e]; rfl
theorem once_good {T Tau : Nat} (hT : 1 ≤ T) (hT2 : T ≤ 4611686018427387903) (hU : Tau ≤ 4611686018427387903) : dwithV (T : Int) (Tau : Int) 0 = .tuple #[.int .i64 (withV T Tau 0 : Int), .int .i64 0] := by
  have := with_good (f := 0) (t := 0) hT hT2 hU (Nat.le_refl _) (by omega)
  simpa using this
theorem with_le (T Tau s : Nat) (hU : Tau ≤ 4611686018427387903) (hs : s ≤ 4611686018427387903) : withV T Tau s ≤ 9223372036854775807 := by
  unfold withV
  have := Nat.div_le_self (s + Tau) T
  omega

set_option maxHeartbeats 6400000 in
theorem gcraBounds_a (TI TauI tatI frI toI : Int) (A : Option Addr) (n c : Nat) (l : List (Int × Int)) (w : World) (h : ArgC w w.heap.size 2 A n c (F2 l)) (hn : n ≤ 8796093021952) (hbd : ∀ x ∈ l, x.1 ≤ 9223372036854775807 ∧ x.2 ≤ 9223372036854775807)
    (T Tau tat f t : Nat) (hT : 1 ≤ T) (hT2 : T ≤ 4611686018427387903) (hU : Tau ≤ 4611686018427387903) (ht : tat ≤ 4611686018427387903) (hft : f ≤ t) (htt : t ≤ 4611686018427387903)
    (HC : Hid (∀ w, Calls Try.prog 11 #[.agg #[.int .i64 TI, .int .i64 TauI], .int .i64 tatI, .int .i64 frI, .int .i64 toI] w (ValEnd w (.tuple #[.agg #[.int .i64 (T : Int), .int .i64 (Tau : Int)], .int .i64 (tat : Int), .int .i64 (f : Int), .int .i64 (t : Int)])))) :
    Calls Try.prog 4 #[.agg #[.int .i64 TI, .int .i64 TauI], .int .i64 tatI, .slice A n c, .int .i64 frI, .int .i64 toI] w (ValEnd w (.bool true)) := by
  have hln : l.length = n := by have := h.len; rw [F2_len] at this; omega
  obtain ⟨m, hm⟩ : ∃ m, m = min n 200 := ⟨_, rfl⟩
  have hmn : m ≤ n := by omega
  have hm2 : m ≤ 200 := by omega
  have hmin : (if (n : Int) ≤ 200 then (n : Int) else 200) = (m : Int) := by split <;> omega
  have hmin2 : (if (n : Int) < 200 then (n : Int) else 200) = (m : Int) := by split <;> omega
  have hmin3 : (if (200 : Int) < (n : Int) then 200 else (n : Int)) = (m : Int) := by split <;> omega
  have HM := Lib.hid hm
  have hle := h.le
  have hcap := h.cap
  unfold maxLen at hcap
  have hto := h.to_ hmn
  have htk : (F2 l).take (m * 2) = F2 (l.take m) := by
    have e : l = l.take m ++ l.drop m := (List.take_append_drop m l).symm
    conv => lhs; rw [e, F2_append]
    rw [List.take_left' (by rw [F2_len, List.length_take]; omega)]
  rw [htk] at hto
  obtain ⟨l', hl'⟩ : ∃ l', l' = l.take m := ⟨_, rfl⟩
  rw [← hl'] at hto
  have hll : l'.length = m := by rw [hl', List.length_take]; omega
  have hbd' : ∀ x ∈ l', x.1 ≤ 9223372036854775807 ∧ x.2 ≤ 9223372036854775807 := fun x hx => hbd x (by rw [hl'] at hx; exact List.mem_of_mem_take hx)
  have HTO := Lib.hid hto
  have HLL := Lib.hid hll
  have HBD := Lib.hid hbd'
  have B0 := Lib.hid ((Below.refl w.heap.size w).alloc (Nat.le_refl _) (.cells #[.int .i64 TI, .int .i64 TauI] 23))
  have K0 := Lib.hid (BlkL.new w [.int .i64 TI, .int .i64 TauI] 23)
  have dsw : decide ((t : Int) < (f : Int)) = false := decide_eq_false (by omega)
  have HWI := Lib.hid (fun w => withinP_any w (T : Int) (Tau : Int) ((t : Int) - (f : Int)))
  rw [with_good hT hT2 hU (by omega) htt] at HWI
  have HON := Lib.hid (fun w => onceP_any w (T : Int) (Tau : Int))
  rw [once_good hT hT2 hU] at HON
  clear h hm hto htk hl' hll hbd' hbd hln
  go_enter Try.func4, Try.ntmps4
  go_wp2_with fail
  with_reducible refine (awake5_any _).mono ?_
  rintro e w1 ⟨rfl, hb⟩
  have HB1 := Lib.hid (B0.out.trans (hb.mono (by simp)))
  have k1 := K0.out.below hb
  have l0 := k1.cell 0 _ rfl
  have l1 := k1.cell 1 _ rfl
  have zl := k1.lt
  have K1 := Lib.hid k1
  have hz1 := HB1.out.size
  clear hb B0 K0 k1
  go_wp2_with fail
  with_reducible refine (HC.out _).mono ?_
  rintro e w2 ⟨rfl, hb⟩
  have hb2 := HB1.out.trans (hb.mono hz1)
  have k2 := K1.out.below hb
  have k2s := (k2.put2 (.int .i64 (T : Int)) (.int .i64 (Tau : Int)))
  have hb2s := below_put2 hb2 (b := w.heap.size) (Nat.le_refl _) (.int .i64 (T : Int)) (.int .i64 (Tau : Int))
  have f0 := k2.froz 0 (by simp)
  have f1 := k2.froz 1 (by simp)
  clear l0 l1 zl
  have l0 := k2.cell 0 _ rfl
  have l1 := k2.cell 1 _ rfl
  have zl := k2.lt
  obtain ⟨wx, hwx⟩ : ∃ x, x = ((w2.setCell ⟨w.heap.size, 0, none⟩ (.int .i64 (T : Int))).setCell ⟨w.heap.size, 1, none⟩ (.int .i64 (Tau : Int))).alloc (.cells #[] 45) := ⟨_, rfl⟩
  have hb3 := hb2s.alloc hb2s.size (.cells #[] 45)
  have hsz2 := hb2s.size
  have k3 := k2s.below ((Below.refl _ _).alloc (Nat.le_refl _) (.cells #[] 45))
  have own0 : OwnC wx (w.heap.size + 1) 45 2 (some ⟨w2.heap.size, 0, none⟩) 0 0 [] := by
    have h := OwnC.lit0 ((w2.setCell ⟨w.heap.size, 0, none⟩ (.int .i64 (T : Int))).setCell ⟨w.heap.size, 1, none⟩ (.int .i64 (Tau : Int))) 45 2
    rw [← hwx] at h
    have e : ((w2.setCell ⟨w.heap.size, 0, none⟩ (.int .i64 (T : Int))).setCell ⟨w.heap.size, 1, none⟩ (.int .i64 (Tau : Int))).heap.size = w2.heap.size := by simp
    rw [e] at h
    exact h.mono (by have := k2.lt; omega)
  rw [← hwx] at hb3 k3
  have hargX : ArgC wx w.heap.size 2 A m c (F2 l') := HTO.out.below hb3
  have hzx : w.heap.size + 1 ≤ wx.heap.size := by have := k3.lt; omega
  have HOWN := Lib.hid own0
  have HARG := Lib.hid hargX
  have HKX := Lib.hid k3
  have HBX := Lib.hid hb3
  rw [hwx] at HOWN HARG
  clear hb k2 hb2 K1 HB1 k2s hb2s hb3 k3 own0 hargX
  go_wp2_with (refine wpList_append_rows rfl (.tmp 41) (.tmp 46) 24 rfl (w.heap.size + 1) 45 _ 2 16 Try.underlying24 rask_info rfl (by omega) (some ⟨w2.heap.size, 0, none⟩) 0 0 [] rfl HOWN.out w.heap.size A m c (F2 l') rfl HARG.out (F2_one l') (by unfold maxLen; omega) (by omega) (by rw [← hwx]; exact hzx) ?_)
  intro A2 c2 w3 hown hb
  rw [← hwx] at hb
  have hown : OwnC w3 (w.heap.size + 1) 45 2 A2 m c2 (F2 l') := by simpa using hown
  have HB3 := Lib.hid (HBX.out.trans (hb.mono (Nat.le_succ _)))
  have k3 := HKX.out.keep hb (Nat.lt_succ_self _)
  have HL0 : Hid (NormInv w l' m A2 c2 [.int .i64 (T : Int), .int .i64 (Tau : Int)] (.int .i64 0) (.int .i64 0) w3) := Lib.hid ⟨0, Nat.zero_le _, rfl, rfl, by simpa [midL, normL] using hown, k3, HB3.out, by have := hb.size; omega⟩
  clear HOWN HARG hwx f0 f1 l0 l1 zl HKX HBX hb hown k3
  go_wp2
  go_loopw [11, 50] (fun lv iv wr => NormInv w l' m A2 c2 [.int .i64 (T : Int), .int .i64 (Tau : Int)] lv iv wr) (fun _ iv _ => m - (intOf iv).toNat)
  case atStart => exact HL0.out
  case round =>
    obtain ⟨i, hi, rfl, rfl, ho, kl, hbel, hsz⟩ := hrel
    clear HL0
    rcases Nat.lt_or_ge i m with h1 | h1
    · obtain ⟨g, rfl, hcl⟩ := ho.at0 (by omega)
      clear hcl hown
      have hg := ho.grd
      have hill : i < l'.length := by have := HLL.out; omega
      rw [midL_at l' i hill] at ho
      have HMS := Lib.hid (midL_succ l' i)
      have HLT := Lib.hid (lastL_take l' i hill)
      have hbd := HBD.out (l'.getD i (0, 0)) (by rw [List.getD_eq_getElem?_getD, List.getElem?_eq_getElem hill]; exact List.getElem_mem hill)
      generalize lastL (l'.take i) = La at HMS HLT
      generalize hPe : cast2 (normL l' i) = P at ho HMS
      have hPl : P.length = i := by rw [← hPe, List.length_map, normL_len]
      generalize l'.drop (i + 1) = R at ho HMS
      generalize l'.getD i (0, 0) = xy at ho HMS HLT hbd
      obtain ⟨x, y⟩ := xy
      simp only at ho hbd
      have q := ho.pair
      rw [hPl] at q
      obtain ⟨q0, q1⟩ := q
      have j0 : (0 : Int) ≤ (i : Int) := by omega
      have j1 : (i : Int) < (m : Int) := by omega
      have j2 : ¬ m ≤ i := by omega
      have HO := Lib.hid ho
      have HKL := Lib.hid kl
      have HBEL := Lib.hid hbel
      clear ho kl hbel hPe
      go_wp2_with fail
      with_reducible refine (rclamp_any _ x hbd.1).mono ?_
      rintro e w4 ⟨rfl, hb⟩
      have HO4 := Lib.hid (HO.out.below hb)
      have HB4 := Lib.hid (hb.mono hsz)
      have f0 := HO4.out.frozenAt (i * 2)
      have r0 := (hb.cell (p := ⟨g, i * 2, none⟩) hg.2).trans q0
      have hg4 := HO4.out.grd
      have hx0 := clampV_bd x
      have hy0 := clampV_bd y
      obtain ⟨M, hM⟩ : ∃ M, M = max (clampV x).toNat La := ⟨_, rfl⟩
      rw [← hM] at HMS HLT
      have hmx : (if clampV x < (La : Int) then (La : Int) else clampV x) = (M : Int) := by split <;> omega
      clear hM
      have ho5 := HO4.out.set0 (M : Int)
      rw [hPl] at ho5
      obtain ⟨p0, p1⟩ := ho5.pair
      rw [hPl] at p0 p1
      have HO5 := Lib.hid ho5
      have HB5 := Lib.hid (HB4.out.setCell (p := ⟨g, i * 2, none⟩) (by exact hg4.1) (.int .i64 (M : Int)))
      have hsz5 : w.heap.size + 1 ≤ (w4.setCell ⟨g, i * 2, none⟩ (.int .i64 (M : Int))).heap.size := by have := HB5.out.size; omega
      clear hb HO q0 q1 ho5
      go_wp2_with fail
      with_reducible refine (rclamp_any _ y hbd.2).mono ?_
      rintro e w6 ⟨rfl, hb⟩
      have HO6 := Lib.hid (HO5.out.below hb)
      have HB6 := Lib.hid (HB5.out.trans (hb.mono hsz5))
      have f1 := HO6.out.frozenAt (i * 2 + 1)
      have r1 := HO6.out.pair.2
      rw [hPl] at r1
      have hg6 := HO6.out.grd
      have ho7 := HO6.out.set1 (clampV y)
      rw [hPl] at ho7
      obtain ⟨o0, o1⟩ := ho7.pair
      rw [hPl] at o0 o1
      have HO7 := Lib.hid ho7
      have HB7 := Lib.hid (HB6.out.setCell (p := ⟨g, i * 2 + 1, none⟩) (by exact hg6.1) (.int .i64 (clampV y)))
      have HK7 := Lib.hid (HKL.out.keep HB7.out (Nat.lt_succ_self _))
      have HBW := Lib.hid (HBEL.out.trans (HB7.out.mono (Nat.le_succ _)))
      have hszW := HB7.out.size
      clear hb f0 r0 p0 p1 ho7 HO4 HB4 HO5 HB5 HO6 HB6 HKL HBEL
      go_wp2_with fail
      go_roundw
      case rel =>
        refine ⟨i + 1, by omega, by go_num, by rw [HLT.out], ?_, HK7.out, HBW.out, by omega⟩
        rw [HMS.out, show (((clampV y).toNat : Nat) : Int) = clampV y by omega]
        exact HO7.out
      case measure => simp [intOf]; omega
    · obtain rfl : i = m := by omega
      have e : midL l' i = cast2 (normL l' i) := by have := midL_all l'; rw [HLL.out] at this; exact this
      have hLb := normL_le l' i (by rw [HLL.out]; exact Nat.le_refl _)
      have hLl := normL_len l' i
      rw [e] at ho
      clear e
      generalize lastL (l'.take i) = La
      generalize normL l' i = L at ho hLb hLl
      have HO := Lib.hid ho.arg
      have hdl0 := ho.arg.le
      have hdc0 := ho.arg.cap
      unfold maxLen at hdc0
      have HLB := Lib.hid hLb
      have HLL2 := Lib.hid hLl
      have HKL := Lib.hid kl
      have HBEL := Lib.hid hbel
      have hz0 := hbel.size
      clear ho kl hbel hown hLb hLl
      go_wp2_with fail
      with_reducible refine (asks_any _ _ A2 i c2 (cast2 L) HO.out (Nat.le_refl _) (by omega)).mono ?_
      rintro e w4 ⟨F, d, rfl, hf, hb⟩
      have HB4 := Lib.hid (HBEL.out.trans (hb.mono hz0))
      have k4 := HKL.out.below hb
      have HO4 := Lib.hid (HO.out.below hb)
      have hz4 : wr.heap.size ≤ w4.heap.size := hb.size
      have hfr := hf.arg.to_ (m := i) (by omega)
      rw [F2_append, List.take_left' (by rw [F2_len, List.length_map, HLL2.out])] at hfr
      have hdl := hf.arg.le
      have hdc := hf.arg.cap
      unfold maxLen at hdc
      have HRR := Lib.hid (run_own w4.drew T Tau tat w4.heap.size F i d L (hfr.drewN 1) (by simp) (by omega) hT hT2 hU ht HLB.out)
      have l0 := k4.cell 0 _ rfl
      have l1 := k4.cell 1 _ rfl
      have zl := k4.lt
      have K4 := Lib.hid k4
      have i0 : (0 : Int) ≤ (i : Int) := by omega
      have i1 : (i : Int) ≤ (d : Int) := by omega
      have i2 : ¬ d < i := by omega
      clear hf hb HBEL HKL HO hfr k4
      go_wp2_with fail
      go_region_held3 (fun w' => w'.cell? ⟨w.heap.size, 0, none⟩ = some (.int .i64 (T : Int)) ∧ w'.cell? ⟨w.heap.size, 1, none⟩ = some (.int .i64 (Tau : Int))) (go_keep)
        (first
          | ((with_reducible refine HRR.out.mono ?_); rintro e w5 ⟨R, rc, rfl, hor, hb⟩; have HOR := Lib.hid hor; have k5 := (K4.out.drewN 1).below hb; have d0 := k5.cell 0 _ rfl; have d1 := k5.cell 1 _ rfl; have d2 := k5.lt; have K5 := Lib.hid k5; have HBr := Lib.hid hb; clear hor hb k5))
      have hb := HBr.out
      have HB5 := Lib.hid ((HB4.out.drew).trans (hb.mono (Nat.le_trans hz0 hz4)))
      have hz45 : w4.heap.size ≤ w5.heap.size := hb.size
      have HO5 := Lib.hid (((HO4.out.drewN 1).below (hb.mono hz4)))
      have HR5 := Lib.hid HOR.out.arg
      have hrl := HR5.out.le
      have hrc := HR5.out.cap
      unfold maxLen at hrc
      clear hb HBr HB4 K4 HO4 HRR l0 l1 zl HOR
      go_wp2_with fail
      with_reducible refine (HWI.out _).mono ?_
      rintro e w6 ⟨rfl, hb⟩
      have hz5 := HB5.out.size
      have HB6 := Lib.hid (HB5.out.trans (hb.mono hz5))
      have k6 := K5.out.below hb
      have hz56 : w5.heap.size ≤ w6.heap.size := hb.size
      have HO6 := Lib.hid (HO5.out.below (hb.mono (by omega)))
      have HR6 := Lib.hid (HR5.out.below hb)
      clear d0 d1 d2
      have d0 := k6.cell 0 _ rfl
      have d1 := k6.cell 1 _ rfl
      have d2 := k6.lt
      have K6 := Lib.hid k6
      clear hb HB5 HO5 HR5 K5 k6
      go_wp2_with fail
      with_reducible refine (HON.out _).mono ?_
      rintro e w7 ⟨rfl, hb⟩
      have hz6 := HB6.out.size
      have HB7 := Lib.hid (HB6.out.trans (hb.mono hz6))
      have hz67 : w6.heap.size ≤ w7.heap.size := hb.size
      have HO7 := Lib.hid (HO6.out.below (hb.mono (by omega)))
      have HR7 := Lib.hid (HR6.out.below (hb.mono (by omega)))
      have hz7 := HB7.out.size
      clear hb HB6 HO6 HR6 K6 d0 d1 d2
      have hne : ((i : Int) != (i : Int)) = false := by simp
      go_wp2
      go_loopw [20, 21, 127] (fun lv av iv wr => SumInv w7 T Tau tat f t L i lv av iv wr) (fun _ _ iv _ => i - (intOf iv).toNat)
      case atStart => exact ⟨0, 0, tat, withV T Tau (t - f), Nat.zero_le _, rfl, rfl, rfl, rfl, rfl, .inl rfl, ht, Below.refl _ _⟩
      case round =>
        obtain ⟨k, S, a, Lf, hk, rfl, ha, rfl, rfl, hLf, hBd, hale, hbel⟩ := hrel
        have hszr := hbel.size
        have hRk := HR7.out.below (hbel.mono (by omega))
        have hOk := HO7.out.below (hbel.mono (by omega))
        have HBEL := Lib.hid hbel
        clear hbel
        rcases Nat.lt_or_ge k i with h1 | h1
        · obtain ⟨b1, o1, rfl, hlt1, hc1⟩ := hRk.at_ (by omega)
          obtain ⟨b2, o2, rfl, hlt2, hc2⟩ := hOk.at_ (by omega)
          have hkl : k < L.length := by have := HLL2.out; omega
          have q0 := (hc1 (k * 4) (by omega)).trans (runC_at T Tau tat L i k 0 h1 (by omega))
          have q1 := (hc1 (k * 4 + 1) (by omega)).trans (runC_at T Tau tat L i k 1 h1 (by omega))
          have hf2 := F2_at (cast2 L) k (by simpa using hkl)
          rw [cast_at L k hkl] at hf2
          have p0 := (hc2 (k * 2) (by omega)).trans hf2.1
          have p1 := (hc2 (k * 2 + 1) (by omega)).trans hf2.2
          have hnx := tatAt_take T Tau tat L k hkl
          have hxy := HLB.out (L.getD k (0, 0)) (by rw [List.getD_eq_getElem?_getD, List.getElem?_eq_getElem hkl]; exact List.getElem_mem hkl)
          unfold ansC at q0 q1
          rw [← ha] at q0 q1 hnx
          generalize L.getD k (0, 0) = xy at q0 q1 p0 p1 hnx hxy
          obtain ⟨x, y⟩ := xy
          have q0 : wr.cell? ⟨b1, o1 + k * 4, none⟩ = some (.bool (grB T Tau a x y)) := q0
          have q1 : wr.cell? ⟨b1, o1 + k * 4 + 1, none⟩ = some (.int .i64 (tatV T Tau a x y : Nat)) := q1
          have p0 : wr.cell? ⟨b2, o2 + k * 2, none⟩ = some (.int .i64 (x : Int)) := p0
          have p1 : wr.cell? ⟨b2, o2 + k * 2 + 1, none⟩ = some (.int .i64 (y : Int)) := p1
          simp only at hxy hnx
          have HNX := Lib.hid hnx
          have hmono := tat_mono T Tau a x y
          have hle2 := tatV_le (Tau := Tau) (n := y) hT hale hxy.1
          have j0 : (0 : Int) ≤ (k : Int) := by omega
          have j1 : (k : Int) < (i : Int) := by omega
          have j2 : ¬ i ≤ k := by omega
          have hb1w : b1 < wr.heap.size := by omega
          have hb2w : b2 < wr.heap.size := by omega
          clear hc1 hc2 hRk hOk hf2 ha hnx
          rcases hG : grB T Tau a x y with _ | _
          · rw [tatV_no hG] at q1 HNX hle2
            rw [hG] at q0
            have hna : ((a : Int) != (a : Int)) = false := by simp
            go_wp2
            go_roundw
            case rel => exact ⟨k + 1, S, a, Lf, by omega, by go_num, HNX.out.symm, rfl, rfl, hLf, hBd, hale, HBEL.out.alloc hszr _⟩
            case measure => simp [intOf]; omega
          · rw [hG] at q0
            have hone : y ≤ withV T Tau 0 := by have := gr_once hG; unfold withV; rw [Nat.zero_add]; exact this
            have dn := fun (h : f ≤ x) => BdOk.next hBd hG h
            have ds := fun (h : f ≤ x) (h2 : x ≤ t) => BdOk.step hT hale hxy.1 hBd hG h h2
            generalize tatV T Tau a x y = a2 at q1 HNX hmono hle2 dn
            have dOnce : decide (((withV T Tau 0 : Nat) : Int) < (y : Int)) = false := decide_eq_false (by omega)
            have DN := Lib.hid dn
            have DS := Lib.hid ds
            have HLF := Lib.hid hLf
            have HBD2 := Lib.hid hBd
            have hone2 : ¬ withV T Tau 0 < y := by omega
            clear dn ds hLf hBd
            rcases Nat.lt_or_ge x f with hA | hA
            · have dA : decide ((f : Int) ≤ (x : Int)) = false := decide_eq_false (by omega)
              go_wp2
              go_roundw
              case rel => exact ⟨k + 1, S, a2, Lf, by omega, by go_num, HNX.out.symm, rfl, rfl, HLF.out, HBD2.out.stay hmono, hle2, HBEL.out.alloc hszr _⟩
              case measure => simp [intOf]; omega
            · have dA : decide ((f : Int) ≤ (x : Int)) = true := decide_eq_true (by omega)
              rcases Nat.lt_or_ge t x with hB | hB
              · have dB : decide ((x : Int) ≤ (t : Int)) = false := decide_eq_false (by omega)
                go_wp2
                go_roundw
                case rel => exact ⟨k + 1, S, a2, Lf, by omega, by go_num, HNX.out.symm, rfl, rfl, HLF.out, HBD2.out.stay hmono, hle2, HBEL.out.alloc hszr _⟩
                case measure => simp [intOf]; omega
              · have dB : decide ((x : Int) ≤ (t : Int)) = true := decide_eq_true (by omega)
                have hyl : y ≤ Lf := by
                  have h1 := HLF.out
                  have h2 := DS.out hA hB
                  unfold withV at h1
                  generalize (t - f + Tau) / T = z at h1 h2
                  omega
                have hWl := with_le T Tau (t - f) hU (by omega)
                have hLfl : Lf ≤ 9223372036854775807 := by have := HLF.out; omega
                have dC : decide ((Lf : Int) < (y : Int)) = false := decide_eq_false (by omega)
                have hLS : Lf - y + (S + y) = withV T Tau (t - f) := by have := HLF.out; omega
                have HLS := Lib.hid hLS
                have hcast : (Lf : Int) - (y : Int) = ((Lf - y : Nat) : Int) := by omega
                have HCA := Lib.hid hcast
                clear hLS hcast
                go_wp2
                go_roundw
                case rel => exact ⟨k + 1, S + y, a2, Lf - y, by omega, by go_num, HNX.out.symm, rfl, by rw [← HCA.out], HLS.out, DN.out hA, hle2, HBEL.out.alloc hszr _⟩
                case measure => simp [intOf]; omega
        · obtain rfl : k = i := by omega
          clear hRk hOk
          have HB8 := Lib.hid (HB7.out.trans (HBEL.out.mono hz7))
          have dE : decide ((k : Int) < (k : Int)) = false := decide_eq_false (by omega)
          go_wp2
          go_ret
          exact ⟨rfl, HB8.out⟩

set_option maxHeartbeats 6400000 in
theorem gcraBounds_b (TI TauI tatI frI toI : Int) (A : Option Addr) (n c : Nat) (l : List (Int × Int)) (w : World) (h : ArgC w w.heap.size 2 A n c (F2 l)) (hn : n ≤ 8796093021952) (hbd : ∀ x ∈ l, x.1 ≤ 9223372036854775807 ∧ x.2 ≤ 9223372036854775807)
    (T Tau tat f t : Nat) (hT : 1 ≤ T) (hT2 : T ≤ 4611686018427387903) (hU : Tau ≤ 4611686018427387903) (ht : tat ≤ 4611686018427387903) (hft : f < t) (htt : t ≤ 4611686018427387903)
    (HC : Hid (∀ w, Calls Try.prog 11 #[.agg #[.int .i64 TI, .int .i64 TauI], .int .i64 tatI, .int .i64 frI, .int .i64 toI] w (ValEnd w (.tuple #[.agg #[.int .i64 (T : Int), .int .i64 (Tau : Int)], .int .i64 (tat : Int), .int .i64 (t : Int), .int .i64 (f : Int)])))) :
    Calls Try.prog 4 #[.agg #[.int .i64 TI, .int .i64 TauI], .int .i64 tatI, .slice A n c, .int .i64 frI, .int .i64 toI] w (ValEnd w (.bool true)) := by
  have hln : l.length = n := by have := h.len; rw [F2_len] at this; omega
  obtain ⟨m, hm⟩ : ∃ m, m = min n 200 := ⟨_, rfl⟩
  have hmn : m ≤ n := by omega
  have hm2 : m ≤ 200 := by omega
  have hmin : (if (n : Int) ≤ 200 then (n : Int) else 200) = (m : Int) := by split <;> omega
  have hmin2 : (if (n : Int) < 200 then (n : Int) else 200) = (m : Int) := by split <;> omega
  have hmin3 : (if (200 : Int) < (n : Int) then 200 else (n : Int)) = (m : Int) := by split <;> omega
  have HM := Lib.hid hm
  have hle := h.le
  have hcap := h.cap
  unfold maxLen at hcap
  have hto := h.to_ hmn
  have htk : (F2 l).take (m * 2) = F2 (l.take m) := by
    have e : l = l.take m ++ l.drop m := (List.take_append_drop m l).symm
    conv => lhs; rw [e, F2_append]
    rw [List.take_left' (by rw [F2_len, List.length_take]; omega)]
  rw [htk] at hto
  obtain ⟨l', hl'⟩ : ∃ l', l' = l.take m := ⟨_, rfl⟩
  rw [← hl'] at hto
  have hll : l'.length = m := by rw [hl', List.length_take]; omega
  have hbd' : ∀ x ∈ l', x.1 ≤ 9223372036854775807 ∧ x.2 ≤ 9223372036854775807 := fun x hx => hbd x (by rw [hl'] at hx; exact List.mem_of_mem_take hx)
  have HTO := Lib.hid hto
  have HLL := Lib.hid hll
  have HBD := Lib.hid hbd'
  have B0 := Lib.hid ((Below.refl w.heap.size w).alloc (Nat.le_refl _) (.cells #[.int .i64 TI, .int .i64 TauI] 23))
  have K0 := Lib.hid (BlkL.new w [.int .i64 TI, .int .i64 TauI] 23)
  have dsw : decide ((f : Int) < (t : Int)) = true := decide_eq_true (by omega)
  have HWI := Lib.hid (fun w => withinP_any w (T : Int) (Tau : Int) ((t : Int) - (f : Int)))
  rw [with_good hT hT2 hU (by omega) htt] at HWI
  have HON := Lib.hid (fun w => onceP_any w (T : Int) (Tau : Int))
  rw [once_good hT hT2 hU] at HON
  clear h hm hto htk hl' hll hbd' hbd hln
  go_enter Try.func4, Try.ntmps4
  go_wp2_with fail
  with_reducible refine (awake5_any _).mono ?_
  rintro e w1 ⟨rfl, hb⟩
  have HB1 := Lib.hid (B0.out.trans (hb.mono (by simp)))
  have k1 := K0.out.below hb
  have l0 := k1.cell 0 _ rfl
  have l1 := k1.cell 1 _ rfl
  have zl := k1.lt
  have K1 := Lib.hid k1
  have hz1 := HB1.out.size
  clear hb B0 K0 k1
  go_wp2_with fail
  with_reducible refine (HC.out _).mono ?_
  rintro e w2 ⟨rfl, hb⟩
  have hb2 := HB1.out.trans (hb.mono hz1)
  have k2 := K1.out.below hb
  have k2s := (k2.put2 (.int .i64 (T : Int)) (.int .i64 (Tau : Int)))
  have hb2s := below_put2 hb2 (b := w.heap.size) (Nat.le_refl _) (.int .i64 (T : Int)) (.int .i64 (Tau : Int))
  have f0 := k2.froz 0 (by simp)
  have f1 := k2.froz 1 (by simp)
  clear l0 l1 zl
  have l0 := k2.cell 0 _ rfl
  have l1 := k2.cell 1 _ rfl
  have zl := k2.lt
  obtain ⟨wx, hwx⟩ : ∃ x, x = ((w2.setCell ⟨w.heap.size, 0, none⟩ (.int .i64 (T : Int))).setCell ⟨w.heap.size, 1, none⟩ (.int .i64 (Tau : Int))).alloc (.cells #[] 45) := ⟨_, rfl⟩
  have hb3 := hb2s.alloc hb2s.size (.cells #[] 45)
  have hsz2 := hb2s.size
  have k3 := k2s.below ((Below.refl _ _).alloc (Nat.le_refl _) (.cells #[] 45))
  have own0 : OwnC wx (w.heap.size + 1) 45 2 (some ⟨w2.heap.size, 0, none⟩) 0 0 [] := by
    have h := OwnC.lit0 ((w2.setCell ⟨w.heap.size, 0, none⟩ (.int .i64 (T : Int))).setCell ⟨w.heap.size, 1, none⟩ (.int .i64 (Tau : Int))) 45 2
    rw [← hwx] at h
    have e : ((w2.setCell ⟨w.heap.size, 0, none⟩ (.int .i64 (T : Int))).setCell ⟨w.heap.size, 1, none⟩ (.int .i64 (Tau : Int))).heap.size = w2.heap.size := by simp
    rw [e] at h
    exact h.mono (by have := k2.lt; omega)
  rw [← hwx] at hb3 k3
  have hargX : ArgC wx w.heap.size 2 A m c (F2 l') := HTO.out.below hb3
  have hzx : w.heap.size + 1 ≤ wx.heap.size := by have := k3.lt; omega
  have HOWN := Lib.hid own0
  have HARG := Lib.hid hargX
  have HKX := Lib.hid k3
  have HBX := Lib.hid hb3
  rw [hwx] at HOWN HARG
  clear hb k2 hb2 K1 HB1 k2s hb2s hb3 k3 own0 hargX
  go_wp2_with (refine wpList_append_rows rfl (.tmp 41) (.tmp 46) 24 rfl (w.heap.size + 1) 45 _ 2 16 Try.underlying24 rask_info rfl (by omega) (some ⟨w2.heap.size, 0, none⟩) 0 0 [] rfl HOWN.out w.heap.size A m c (F2 l') rfl HARG.out (F2_one l') (by unfold maxLen; omega) (by omega) (by rw [← hwx]; exact hzx) ?_)
  intro A2 c2 w3 hown hb
  rw [← hwx] at hb
  have hown : OwnC w3 (w.heap.size + 1) 45 2 A2 m c2 (F2 l') := by simpa using hown
  have HB3 := Lib.hid (HBX.out.trans (hb.mono (Nat.le_succ _)))
  have k3 := HKX.out.keep hb (Nat.lt_succ_self _)
  have HL0 : Hid (NormInv w l' m A2 c2 [.int .i64 (T : Int), .int .i64 (Tau : Int)] (.int .i64 0) (.int .i64 0) w3) := Lib.hid ⟨0, Nat.zero_le _, rfl, rfl, by simpa [midL, normL] using hown, k3, HB3.out, by have := hb.size; omega⟩
  clear HOWN HARG hwx f0 f1 l0 l1 zl HKX HBX hb hown k3
  go_wp2
  go_loopw [11, 50] (fun lv iv wr => NormInv w l' m A2 c2 [.int .i64 (T : Int), .int .i64 (Tau : Int)] lv iv wr) (fun _ iv _ => m - (intOf iv).toNat)
  case atStart => exact HL0.out
  case round =>
    obtain ⟨i, hi, rfl, rfl, ho, kl, hbel, hsz⟩ := hrel
    clear HL0
    rcases Nat.lt_or_ge i m with h1 | h1
    · obtain ⟨g, rfl, hcl⟩ := ho.at0 (by omega)
      clear hcl hown
      have hg := ho.grd
      have hill : i < l'.length := by have := HLL.out; omega
      rw [midL_at l' i hill] at ho
      have HMS := Lib.hid (midL_succ l' i)
      have HLT := Lib.hid (lastL_take l' i hill)
      have hbd := HBD.out (l'.getD i (0, 0)) (by rw [List.getD_eq_getElem?_getD, List.getElem?_eq_getElem hill]; exact List.getElem_mem hill)
      generalize lastL (l'.take i) = La at HMS HLT
      generalize hPe : cast2 (normL l' i) = P at ho HMS
      have hPl : P.length = i := by rw [← hPe, List.length_map, normL_len]
      generalize l'.drop (i + 1) = R at ho HMS
      generalize l'.getD i (0, 0) = xy at ho HMS HLT hbd
      obtain ⟨x, y⟩ := xy
      simp only at ho hbd
      have q := ho.pair
      rw [hPl] at q
      obtain ⟨q0, q1⟩ := q
      have j0 : (0 : Int) ≤ (i : Int) := by omega
      have j1 : (i : Int) < (m : Int) := by omega
      have j2 : ¬ m ≤ i := by omega
      have HO := Lib.hid ho
      have HKL := Lib.hid kl
      have HBEL := Lib.hid hbel
      clear ho kl hbel hPe
      go_wp2_with fail
      with_reducible refine (rclamp_any _ x hbd.1).mono ?_
      rintro e w4 ⟨rfl, hb⟩
      have HO4 := Lib.hid (HO.out.below hb)
      have HB4 := Lib.hid (hb.mono hsz)
      have f0 := HO4.out.frozenAt (i * 2)
      have r0 := (hb.cell (p := ⟨g, i * 2, none⟩) hg.2).trans q0
      have hg4 := HO4.out.grd
      have hx0 := clampV_bd x
      have hy0 := clampV_bd y
      obtain ⟨M, hM⟩ : ∃ M, M = max (clampV x).toNat La := ⟨_, rfl⟩
      rw [← hM] at HMS HLT
      have hmx : (if clampV x < (La : Int) then (La : Int) else clampV x) = (M : Int) := by split <;> omega
      clear hM
      have ho5 := HO4.out.set0 (M : Int)
      rw [hPl] at ho5
      obtain ⟨p0, p1⟩ := ho5.pair
      rw [hPl] at p0 p1
      have HO5 := Lib.hid ho5
      have HB5 := Lib.hid (HB4.out.setCell (p := ⟨g, i * 2, none⟩) (by exact hg4.1) (.int .i64 (M : Int)))
      have hsz5 : w.heap.size + 1 ≤ (w4.setCell ⟨g, i * 2, none⟩ (.int .i64 (M : Int))).heap.size := by have := HB5.out.size; omega
      clear hb HO q0 q1 ho5
      go_wp2_with fail
      with_reducible refine (rclamp_any _ y hbd.2).mono ?_
      rintro e w6 ⟨rfl, hb⟩
      have HO6 := Lib.hid (HO5.out.below hb)
      have HB6 := Lib.hid (HB5.out.trans (hb.mono hsz5))
      have f1 := HO6.out.frozenAt (i * 2 + 1)
      have r1 := HO6.out.pair.2
      rw [hPl] at r1
      have hg6 := HO6.out.grd
      have ho7 := HO6.out.set1 (clampV y)
      rw [hPl] at ho7
      obtain ⟨o0, o1⟩ := ho7.pair
      rw [hPl] at o0 o1
      have HO7 := Lib.hid ho7
      have HB7 := Lib.hid (HB6.out.setCell (p := ⟨g, i * 2 + 1, none⟩) (by exact hg6.1) (.int .i64 (clampV y)))
      have HK7 := Lib.hid (HKL.out.keep HB7.out (Nat.lt_succ_self _))
      have HBW := Lib.hid (HBEL.out.trans (HB7.out.mono (Nat.le_succ _)))
      have hszW := HB7.out.size
      clear hb f0 r0 p0 p1 ho7 HO4 HB4 HO5 HB5 HO6 HB6 HKL HBEL
      go_wp2_with fail
      go_roundw
      case rel =>
        refine ⟨i + 1, by omega, by go_num, by rw [HLT.out], ?_, HK7.out, HBW.out, by omega⟩
        rw [HMS.out, show (((clampV y).toNat : Nat) : Int) = clampV y by omega]
        exact HO7.out
      case measure => simp [intOf]; omega
    · obtain rfl : i = m := by omega
      have e : midL l' i = cast2 (normL l' i) := by have := midL_all l'; rw [HLL.out] at this; exact this
      have hLb := normL_le l' i (by rw [HLL.out]; exact Nat.le_refl _)
      have hLl := normL_len l' i
      rw [e] at ho
      clear e
      generalize lastL (l'.take i) = La
      generalize normL l' i = L at ho hLb hLl
      have HO := Lib.hid ho.arg
      have hdl0 := ho.arg.le
      have hdc0 := ho.arg.cap
      unfold maxLen at hdc0
      have HLB := Lib.hid hLb
      have HLL2 := Lib.hid hLl
      have HKL := Lib.hid kl
      have HBEL := Lib.hid hbel
      have hz0 := hbel.size
      clear ho kl hbel hown hLb hLl
      go_wp2_with fail
      with_reducible refine (asks_any _ _ A2 i c2 (cast2 L) HO.out (Nat.le_refl _) (by omega)).mono ?_
      rintro e w4 ⟨F, d, rfl, hf, hb⟩
      have HB4 := Lib.hid (HBEL.out.trans (hb.mono hz0))
      have k4 := HKL.out.below hb
      have HO4 := Lib.hid (HO.out.below hb)
      have hz4 : wr.heap.size ≤ w4.heap.size := hb.size
      have hfr := hf.arg.to_ (m := i) (by omega)
      rw [F2_append, List.take_left' (by rw [F2_len, List.length_map, HLL2.out])] at hfr
      have hdl := hf.arg.le
      have hdc := hf.arg.cap
      unfold maxLen at hdc
      have HRR := Lib.hid (run_own w4.drew T Tau tat w4.heap.size F i d L (hfr.drewN 1) (by simp) (by omega) hT hT2 hU ht HLB.out)
      have l0 := k4.cell 0 _ rfl
      have l1 := k4.cell 1 _ rfl
      have zl := k4.lt
      have K4 := Lib.hid k4
      have i0 : (0 : Int) ≤ (i : Int) := by omega
      have i1 : (i : Int) ≤ (d : Int) := by omega
      have i2 : ¬ d < i := by omega
      clear hf hb HBEL HKL HO hfr k4
      go_wp2_with fail
      go_region_held3 (fun w' => w'.cell? ⟨w.heap.size, 0, none⟩ = some (.int .i64 (T : Int)) ∧ w'.cell? ⟨w.heap.size, 1, none⟩ = some (.int .i64 (Tau : Int))) (go_keep)
        (first
          | ((with_reducible refine HRR.out.mono ?_); rintro e w5 ⟨R, rc, rfl, hor, hb⟩; have HOR := Lib.hid hor; have k5 := (K4.out.drewN 1).below hb; have d0 := k5.cell 0 _ rfl; have d1 := k5.cell 1 _ rfl; have d2 := k5.lt; have K5 := Lib.hid k5; have HBr := Lib.hid hb; clear hor hb k5))
      have hb := HBr.out
      have HB5 := Lib.hid ((HB4.out.drew).trans (hb.mono (Nat.le_trans hz0 hz4)))
      have hz45 : w4.heap.size ≤ w5.heap.size := hb.size
      have HO5 := Lib.hid (((HO4.out.drewN 1).below (hb.mono hz4)))
      have HR5 := Lib.hid HOR.out.arg
      have hrl := HR5.out.le
      have hrc := HR5.out.cap
      unfold maxLen at hrc
      clear hb HBr HB4 K4 HO4 HRR l0 l1 zl HOR
      go_wp2_with fail
      with_reducible refine (HWI.out _).mono ?_
      rintro e w6 ⟨rfl, hb⟩
      have hz5 := HB5.out.size
      have HB6 := Lib.hid (HB5.out.trans (hb.mono hz5))
      have k6 := K5.out.below hb
      have hz56 : w5.heap.size ≤ w6.heap.size := hb.size
      have HO6 := Lib.hid (HO5.out.below (hb.mono (by omega)))
      have HR6 := Lib.hid (HR5.out.below hb)
      clear d0 d1 d2
      have d0 := k6.cell 0 _ rfl
      have d1 := k6.cell 1 _ rfl
      have d2 := k6.lt
      have K6 := Lib.hid k6
      clear hb HB5 HO5 HR5 K5 k6
      go_wp2_with fail
      with_reducible refine (HON.out _).mono ?_
      rintro e w7 ⟨rfl, hb⟩
      have hz6 := HB6.out.size
      have HB7 := Lib.hid (HB6.out.trans (hb.mono hz6))
      have hz67 : w6.heap.size ≤ w7.heap.size := hb.size
      have HO7 := Lib.hid (HO6.out.below (hb.mono (by omega)))
      have HR7 := Lib.hid (HR6.out.below (hb.mono (by omega)))
      have hz7 := HB7.out.size
      clear hb HB6 HO6 HR6 K6 d0 d1 d2
      have hne : ((i : Int) != (i : Int)) = false := by simp
      go_wp2
      go_loopw [20, 21, 127] (fun lv av iv wr => SumInv w7 T Tau tat f t L i lv av iv wr) (fun _ _ iv _ => i - (intOf iv).toNat)
      case atStart => exact ⟨0, 0, tat, withV T Tau (t - f), Nat.zero_le _, rfl, rfl, rfl, rfl, rfl, .inl rfl, ht, Below.refl _ _⟩
      case round =>
        obtain ⟨k, S, a, Lf, hk, rfl, ha, rfl, rfl, hLf, hBd, hale, hbel⟩ := hrel
        have hszr := hbel.size
        have hRk := HR7.out.below (hbel.mono (by omega))
        have hOk := HO7.out.below (hbel.mono (by omega))
        have HBEL := Lib.hid hbel
        clear hbel
        rcases Nat.lt_or_ge k i with h1 | h1
        · obtain ⟨b1, o1, rfl, hlt1, hc1⟩ := hRk.at_ (by omega)
          obtain ⟨b2, o2, rfl, hlt2, hc2⟩ := hOk.at_ (by omega)
          have hkl : k < L.length := by have := HLL2.out; omega
          have q0 := (hc1 (k * 4) (by omega)).trans (runC_at T Tau tat L i k 0 h1 (by omega))
          have q1 := (hc1 (k * 4 + 1) (by omega)).trans (runC_at T Tau tat L i k 1 h1 (by omega))
          have hf2 := F2_at (cast2 L) k (by simpa using hkl)
          rw [cast_at L k hkl] at hf2
          have p0 := (hc2 (k * 2) (by omega)).trans hf2.1
          have p1 := (hc2 (k * 2 + 1) (by omega)).trans hf2.2
          have hnx := tatAt_take T Tau tat L k hkl
          have hxy := HLB.out (L.getD k (0, 0)) (by rw [List.getD_eq_getElem?_getD, List.getElem?_eq_getElem hkl]; exact List.getElem_mem hkl)
          unfold ansC at q0 q1
          rw [← ha] at q0 q1 hnx
          generalize L.getD k (0, 0) = xy at q0 q1 p0 p1 hnx hxy
          obtain ⟨x, y⟩ := xy
          have q0 : wr.cell? ⟨b1, o1 + k * 4, none⟩ = some (.bool (grB T Tau a x y)) := q0
          have q1 : wr.cell? ⟨b1, o1 + k * 4 + 1, none⟩ = some (.int .i64 (tatV T Tau a x y : Nat)) := q1
          have p0 : wr.cell? ⟨b2, o2 + k * 2, none⟩ = some (.int .i64 (x : Int)) := p0
          have p1 : wr.cell? ⟨b2, o2 + k * 2 + 1, none⟩ = some (.int .i64 (y : Int)) := p1
          simp only at hxy hnx
          have HNX := Lib.hid hnx
          have hmono := tat_mono T Tau a x y
          have hle2 := tatV_le (Tau := Tau) (n := y) hT hale hxy.1
          have j0 : (0 : Int) ≤ (k : Int) := by omega
          have j1 : (k : Int) < (i : Int) := by omega
          have j2 : ¬ i ≤ k := by omega
          have hb1w : b1 < wr.heap.size := by omega
          have hb2w : b2 < wr.heap.size := by omega
          clear hc1 hc2 hRk hOk hf2 ha hnx
          rcases hG : grB T Tau a x y with _ | _
          · rw [tatV_no hG] at q1 HNX hle2
            rw [hG] at q0
            have hna : ((a : Int) != (a : Int)) = false := by simp
            go_wp2
            go_roundw
            case rel => exact ⟨k + 1, S, a, Lf, by omega, by go_num, HNX.out.symm, rfl, rfl, hLf, hBd, hale, HBEL.out.alloc hszr _⟩
            case measure => simp [intOf]; omega
          · rw [hG] at q0
            have hone : y ≤ withV T Tau 0 := by have := gr_once hG; unfold withV; rw [Nat.zero_add]; exact this
            have dn := fun (h : f ≤ x) => BdOk.next hBd hG h
            have ds := fun (h : f ≤ x) (h2 : x ≤ t) => BdOk.step hT hale hxy.1 hBd hG h h2
            generalize tatV T Tau a x y = a2 at q1 HNX hmono hle2 dn
            have dOnce : decide (((withV T Tau 0 : Nat) : Int) < (y : Int)) = false := decide_eq_false (by omega)
            have DN := Lib.hid dn
            have DS := Lib.hid ds
            have HLF := Lib.hid hLf
            have HBD2 := Lib.hid hBd
            have hone2 : ¬ withV T Tau 0 < y := by omega
            clear dn ds hLf hBd
            rcases Nat.lt_or_ge x f with hA | hA
            · have dA : decide ((f : Int) ≤ (x : Int)) = false := decide_eq_false (by omega)
              go_wp2
              go_roundw
              case rel => exact ⟨k + 1, S, a2, Lf, by omega, by go_num, HNX.out.symm, rfl, rfl, HLF.out, HBD2.out.stay hmono, hle2, HBEL.out.alloc hszr _⟩
              case measure => simp [intOf]; omega
            · have dA : decide ((f : Int) ≤ (x : Int)) = true := decide_eq_true (by omega)
              rcases Nat.lt_or_ge t x with hB | hB
              · have dB : decide ((x : Int) ≤ (t : Int)) = false := decide_eq_false (by omega)
                go_wp2
                go_roundw
                case rel => exact ⟨k + 1, S, a2, Lf, by omega, by go_num, HNX.out.symm, rfl, rfl, HLF.out, HBD2.out.stay hmono, hle2, HBEL.out.alloc hszr _⟩
                case measure => simp [intOf]; omega
              · have dB : decide ((x : Int) ≤ (t : Int)) = true := decide_eq_true (by omega)
                have hyl : y ≤ Lf := by
                  have h1 := HLF.out
                  have h2 := DS.out hA hB
                  unfold withV at h1
                  generalize (t - f + Tau) / T = z at h1 h2
                  omega
                have hWl := with_le T Tau (t - f) hU (by omega)
                have hLfl : Lf ≤ 9223372036854775807 := by have := HLF.out; omega
                have dC : decide ((Lf : Int) < (y : Int)) = false := decide_eq_false (by omega)
                have hLS : Lf - y + (S + y) = withV T Tau (t - f) := by have := HLF.out; omega
                have HLS := Lib.hid hLS
                have hcast : (Lf : Int) - (y : Int) = ((Lf - y : Nat) : Int) := by omega
                have HCA := Lib.hid hcast
                clear hLS hcast
                go_wp2
                go_roundw
                case rel => exact ⟨k + 1, S + y, a2, Lf - y, by omega, by go_num, HNX.out.symm, rfl, by rw [← HCA.out], HLS.out, DN.out hA, hle2, HBEL.out.alloc hszr _⟩
                case measure => simp [intOf]; omega
        · obtain rfl : k = i := by omega
          clear hRk hOk
          have HB8 := Lib.hid (HB7.out.trans (HBEL.out.mono hz7))
          have dE : decide ((k : Int) < (k : Int)) = false := decide_eq_false (by omega)
          go_wp2
          go_ret
          exact ⟨rfl, HB8.out⟩

end Go.Proofs.Ytpeijhlheencnaa
