/- Contracts: checkRun. -/
import Derived.Test.YtpeijhlheencnaaRow
import Derived.Test.YtpeijhlheencnaaGdec
import Derived.Test.YtpeijhlheencnaaGchk
import Derived.Test.YtpeijhlheencnaaGdoc3
namespace Go.Proofs.Ytpeijhlheencnaa
open Go.RowKit
set_option maxRecDepth 100000
set_option linter.unusedVariables false

def okA (a : Int × Int) : Bool := isTick a.1 && isTick a.2
def goodL (l : List (Int × Int)) : Bool := l.all okA
theorem goodL_snoc (l : List (Int × Int)) (i : Nat) (h : i < l.length) (h1 : goodL (l.take i) = true) (h2 : okA (l.getD i (0, 0)) = true) : goodL (l.take (i + 1)) = true := by
  rw [take_succ_pair l i h]
  unfold goodL at *
  rw [List.all_append, h1]
  simp only [List.all_cons, List.all_nil, Bool.and_true, Bool.true_and]
  exact h2
theorem goodL_not (l : List (Int × Int)) (i : Nat) (h : i < l.length) (h2 : okA (l.getD i (0, 0)) = false) : goodL l = false := by
  unfold goodL
  rw [List.all_eq_false]
  refine ⟨l.getD i (0, 0), ?_, by rw [h2]; exact Bool.false_ne_true⟩
  rw [List.getD_eq_getElem?_getD, List.getElem?_eq_getElem h]
  exact List.getElem_mem h

theorem lit_1 (W : World) (b : Nat) (x : Int) (hb : b = W.heap.size) : ArgI (W.alloc (.cells #[.int .i64 x] 2)) (b + 1) (some ⟨b, 0, none⟩) 1 1 [x] := by subst hb; exact ints_lit W [x] 1 rfl (by omega)
theorem lit_2 (W : World) (b : Nat) (x y : Int) (hb : b = W.heap.size) : ArgI (W.alloc (.cells #[.int .i64 x, .int .i64 y] 2)) (b + 1) (some ⟨b, 0, none⟩) 2 2 [x, y] := by subst hb; exact ints_lit W [x, y] 2 rfl (by omega)

theorem checkRun_lim (w : World) (T Tau tat : Int) (A : Option Addr) (n c : Nat) (hc : chkV T Tau [tat] = 1) :
    Calls Try.prog 27 #[.agg #[.int .i64 T, .int .i64 Tau], .int .i64 tat, .slice A n c] w (ValEnd w (.int .i64 1)) := by
  have hg := gcheck_any ((w.alloc (.cells #[.int .i64 T, .int .i64 Tau] 23)).alloc (.cells #[.int .i64 tat] 2)) T Tau (w.heap.size + 1 + 1) (some ⟨w.heap.size + 1, 0, none⟩) 1 1 [tat] (lit_1 _ (w.heap.size + 1) tat (by simp)) (by simp)
  rw [hc] at hg
  have HG := Lib.hid hg
  clear hg hc
  go_enter Try.func27, Try.ntmps27
  go_wp2_with fail
  with_reducible refine HG.out.mono ?_
  rintro e w1 ⟨rfl, hb⟩
  have HB := Lib.hid (((((Below.refl w.heap.size w).alloc (Nat.le_refl _) _).alloc (by simp) _).trans (hb.mono (by simp; omega))))
  clear hb
  go_wp2
  go_ret
  exact ⟨rfl, HB.out⟩

def ChkInv (w : World) (l : List (Int × Int)) (n : Nat) (T Tau : Int) (iv : Value) (wr : World) : Prop :=
  ∃ i : Nat, i ≤ n ∧ iv = .int .i64 (i : Int) ∧ goodL (l.take i) = true ∧ Below w.heap.size w wr

def chkE (l : List (Int × Int)) (n : Nat) : Int := if goodL l = true then (if 4096 < n then 2 else 0) else 1

set_option maxHeartbeats 1600000 in
theorem checkRun_any (w : World) (T Tau tat : Int) (B : Nat) (A : Option Addr) (n c : Nat) (l : List (Int × Int)) (h : ArgC w B 2 A n c (F2 l)) (hB : B ≤ w.heap.size) (hn : n ≤ 8796093022000) (hc : chkV T Tau [tat] = 0) :
    Calls Try.prog 27 #[.agg #[.int .i64 T, .int .i64 Tau], .int .i64 tat, .slice A n c] w (ValEnd w (.int .i64 (chkE l n))) := by
  have hln : l.length = n := by have := h.len; rw [F2_len] at this; omega
  have HLN := Lib.hid hln
  have HA := Lib.hid (h.more hB)
  have hle := h.le
  have hcap := h.cap
  unfold maxLen at hcap
  have hg := gcheck_any ((w.alloc (.cells #[.int .i64 T, .int .i64 Tau] 23)).alloc (.cells #[.int .i64 tat] 2)) T Tau (w.heap.size + 1 + 1) (some ⟨w.heap.size + 1, 0, none⟩) 1 1 [tat] (lit_1 _ (w.heap.size + 1) tat (by simp)) (by simp)
  rw [hc] at hg
  have HG := Lib.hid hg
  clear hg hc h hln
  go_enter Try.func27, Try.ntmps27
  go_wp2_with fail
  with_reducible refine HG.out.mono ?_
  rintro e w1 ⟨rfl, hb⟩
  have HB := Lib.hid (((((Below.refl w.heap.size w).alloc (Nat.le_refl _) _).alloc (by simp) _).trans (hb.mono (by simp; omega))))
  clear hb
  go_wp2
  go_loopw [19] (fun iv wr => ChkInv w l n T Tau iv wr) (fun iv _ => n - (intOf iv).toNat)
  case atStart => exact ⟨0, Nat.zero_le _, rfl, rfl, HB.out⟩
  case round =>
    obtain ⟨i, hi, rfl, hgood, hbel⟩ := hrel
    clear HB
    have hsz := hbel.size
    have HBEL := Lib.hid hbel
    have HGD := Lib.hid hgood
    have hAk := HA.out.below hbel
    clear hbel hgood
    rcases Nat.lt_or_ge i n with h1 | h1
    · obtain ⟨b, off, rfl, _, hc⟩ := hAk.at_ (by omega)
      have hf := F2_at l i (by rw [HLN.out]; exact h1)
      have hc0 := (hc (i * 2) (by omega)).trans hf.1
      have hc1 := (hc (i * 2 + 1) (by omega)).trans hf.2
      have hsn := goodL_snoc l i (by rw [HLN.out]; exact h1) HGD.out
      have hno := goodL_not l i (by rw [HLN.out]; exact h1)
      clear hc hf hAk
      generalize l.getD i (0, 0) = a at hc0 hc1 hsn hno
      obtain ⟨x, y⟩ := a
      simp only at hc0 hc1
      have hc1 : wr.cell? ⟨b, off + i * 2 + 1, none⟩ = some (.int .i64 y) := hc1
      have ha := areTicks_any ((wr.alloc (.cells #[.int .i64 x, .int .i64 y] 40)).alloc (.cells #[.int .i64 x, .int .i64 y] 2)) (wr.heap.size + 1 + 1) (some ⟨wr.heap.size + 1, 0, none⟩) 2 2 [x, y] (lit_2 _ (wr.heap.size + 1) x y (by simp))
      have bl := ((Below.refl wr.heap.size wr).alloc (Nat.le_refl _) (.cells #[.int .i64 x, .int .i64 y] 40)).alloc (by simp) (.cells #[.int .i64 x, .int .i64 y] 2)
      have HBA := Lib.hid (HBEL.out.trans (bl.mono hsz))
      clear bl
      have hall : [x, y].all isTick = okA (x, y) := by simp [okA]
      rw [hall] at ha
      rcases hok : okA (x, y) with _ | _
      · rw [hok] at ha
        have HAT := Lib.hid ha
        have HV : Hid (chkE l n = 1) := Lib.hid (by unfold chkE; rw [hno hok]; rfl)
        clear ha hok hno hsn hall
        go_wp2_with fail
        with_reducible refine HAT.out.mono ?_
        rintro e w2 ⟨rfl, hw⟩
        subst hw
        go_wp2
        go_ret
        exact ⟨by rw [HV.out]; rfl, HBA.out⟩
      · rw [hok] at ha
        have HAT := Lib.hid ha
        have HSN := Lib.hid (hsn hok)
        clear ha hok hno hsn hall
        go_wp2_with fail
        with_reducible refine HAT.out.mono ?_
        rintro e w2 ⟨rfl, hw⟩
        subst hw
        go_wp2
        go_roundw
        case rel => exact ⟨i + 1, by omega, by go_num, HSN.out, HBA.out⟩
        case measure => simp [intOf]; omega
    · obtain rfl : i = n := by omega
      have hg2 := HGD.out
      rw [List.take_of_length_le (by rw [HLN.out]; exact Nat.le_refl _)] at hg2
      rcases Nat.lt_or_ge 4096 i with h4 | h4
      · have HV : Hid (chkE l i = 2) := Lib.hid (by unfold chkE; rw [if_pos hg2, if_pos h4])
        have hd : decide ((4096 : Int) < (i : Int)) = true := decide_eq_true (by omega)
        clear hg2
        go_wp2
        go_ret
        exact ⟨by rw [HV.out]; rfl, HBEL.out⟩
      · have HV : Hid (chkE l i = 0) := Lib.hid (by unfold chkE; rw [if_pos hg2, if_neg (by omega)])
        have hd : decide ((4096 : Int) < (i : Int)) = false := decide_eq_false (by omega)
        clear hg2
        go_wp2
        go_ret
        exact ⟨by rw [HV.out]; rfl, HBEL.out⟩
end Go.Proofs.Ytpeijhlheencnaa
