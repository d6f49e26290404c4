/- A table of policies: as cells; its error, by the program and by the document. -/
import Derived.Test.YtnkecjjfbllgdaaBkM
namespace Go.Proofs.Ytnkecjjfbllgdaa
open Go.RowKit
set_option maxRecDepth 100000
set_option linter.unusedVariables false

def PolM.cells (p : PolM) : List Value := [.int .u8 (p.kind : Nat), .int .i64 p.T, .int .i64 p.Tau, .int .i64 p.perm]
abbrev noPol : PolM := ⟨0, 0, 0, 0⟩
def FP (l : List PolM) : List Value := l.flatMap PolM.cells
theorem FP_len (l : List PolM) : (FP l).length = l.length * 4 := by
  induction l with
  | nil => rfl
  | cons a l ih => simp [FP, PolM.cells] at *; omega
theorem FP_at (l : List PolM) (i j : Nat) (h : i < l.length) (hj : j < 4) : (FP l)[i * 4 + j]? = (l.getD i noPol).cells[j]? := by
  induction l generalizing i with
  | nil => simp at h
  | cons a l ih =>
    cases i with
    | zero =>
      rw [Nat.zero_mul, Nat.zero_add]
      show (a.cells ++ FP l)[j]? = a.cells[j]?
      rw [List.getElem?_append_left (by simp [PolM.cells]; omega)]
    | succ i =>
      have := ih i (by simpa using h)
      show (a.cells ++ FP l)[(i + 1) * 4 + j]? = _
      rw [List.getElem?_append_right (by simp [PolM.cells]; omega)]
      have e : (i + 1) * 4 + j - a.cells.length = i * 4 + j := by simp [PolM.cells]; omega
      rw [e, this]; rfl
def polB (p : PolM) : Bool := if p.kind = 1 then decide (checkV p.T p.Tau = 0) else if p.kind = 2 then decide (1 ≤ p.perm) && decide (p.perm ≤ 64) else false
theorem polB_ok {p : PolM} : polB p = true ↔ p.ok := by
  unfold polB PolM.ok
  split
  · rename_i h; rw [h]; simp
  · rename_i h
    split
    · rename_i h2; rw [h2]; simp
    · rename_i h2; simp [h, h2]
def polsV (l : List PolM) : Int := if 32 < l.length then 2 else if l.all polB = true then 0 else 3
theorem allP_snoc (l : List PolM) (i : Nat) (h : i < l.length) (h1 : (l.take i).all polB = true) (h2 : polB (l.getD i noPol) = true) : (l.take (i + 1)).all polB = true := by
  rw [List.take_succ_eq_append_getElem h, List.all_append, h1]
  rw [List.getD_eq_getElem?_getD, List.getElem?_eq_getElem h] at h2
  simpa using h2
theorem allP_not (l : List PolM) (i : Nat) (h : i < l.length) (h2 : polB (l.getD i noPol) = false) : l.all polB = false := by
  rw [List.all_eq_false]
  refine ⟨l.getD i noPol, ?_, by rw [h2]; exact Bool.false_ne_true⟩
  rw [List.getD_eq_getElem?_getD, List.getElem?_eq_getElem h]
  exact List.getElem_mem h
theorem u8_ne1 {a : Nat} (h : a ≠ 1) : ((a : Int) == 1) = false := beq_eq_false_iff_ne.2 (by omega)
theorem u8_ne2 {a : Nat} (h : a ≠ 2) : ((a : Int) == 2) = false := beq_eq_false_iff_ne.2 (by omega)
theorem semB_nil (p : Int) : semV p [] = if (decide (1 ≤ p) && decide (p ≤ 64)) = true then 0 else 3 := by
  unfold semV semB
  simp only [okList, List.length_nil, Bool.and_true]
  congr 1
  rw [eq_iff_iff]
  simp only [Bool.and_eq_true, decide_eq_true_eq]
  constructor
  · intro h; exact h.1
  · intro h; exact ⟨h, by simp; omega⟩

theorem below_x1 (w : World) (x : Obj) : Below w.heap.size w (w.alloc x) := (Below.refl _ _).alloc (Nat.le_refl _) _
set_option maxHeartbeats 1600000 in
theorem isPol_any (w : World) (kd : Nat) (T Tau pm : Int) : Calls Try.prog 26 #[.agg #[.int .u8 (kd : Nat), .int .i64 T, .int .i64 Tau, .int .i64 pm]] w (ValEnd w (.bool (polB ⟨kd, T, Tau, pm⟩))) := by
  have HK := Lib.hid (fun w => checkP_any w T Tau)
  have HS := Lib.hid (fun w => permCheck_any w 0 none 0 0 [] pm (ArgI.nil w 0) (Nat.zero_le _))
  rw [semB_nil] at HS
  by_cases h1 : kd = 1
  · subst h1
    have HV : Hid (polB ⟨1, T, Tau, pm⟩ = decide (checkV T Tau = 0)) := Lib.hid rfl
    generalize checkV T Tau = cv at HK HV
    clear HS
    go_enter Try.func26, Try.ntmps26
    go_wp2_with fail
    with_reducible refine (HK.out _).mono ?_
    rintro e w1 ⟨rfl, hb⟩
    have HB := Lib.hid ((below_x1 w _).trans (hb.mono (by simp)))
    clear hb
    go_wp2
    go_ret
    exact ⟨by rw [HV.out]; exact ret_bool (by rw [Bool.eq_iff_iff]; simp), HB.out⟩
  · have q1 := u8_ne1 h1
    by_cases h2 : kd = 2
    · subst h2
      have HV : Hid (polB ⟨2, T, Tau, pm⟩ = (decide (1 ≤ pm) && decide (pm ≤ 64))) := Lib.hid rfl
      clear HK h1 q1
      rcases hd : (decide (1 ≤ pm) && decide (pm ≤ 64)) with _ | _
      all_goals
        rw [hd] at HS HV
        clear hd
        go_enter Try.func26, Try.ntmps26
        go_wp2_with fail
        with_reducible refine (HS.out _).mono ?_
        rintro e w1 ⟨rfl, hb⟩
        have HB := Lib.hid ((below_x1 w _).trans (hb.mono (by simp)))
        clear hb
        go_wp2
        go_ret
        exact ⟨by rw [HV.out] <;> rfl, HB.out⟩
    · have q2 := u8_ne2 h2
      have HV : Hid (polB ⟨kd, T, Tau, pm⟩ = false) := Lib.hid (by unfold polB; rw [if_neg h1, if_neg h2])
      clear HS HK h1 h2
      go_enter Try.func26, Try.ntmps26
      go_wp2
      go_ret
      exact ⟨by rw [HV.out] <;> rfl, below_x1 _ _⟩

set_option maxHeartbeats 1600000 in
theorem form16_any (w : World) (kd : Nat) (T Tau pm : Int) : Calls Try.prog 27 #[.agg #[.int .u8 (kd : Nat), .int .i64 T, .int .i64 Tau, .int .i64 pm]] w (ValEnd w (.bool (polB ⟨kd, T, Tau, pm⟩))) := by
  have HK := Lib.hid (fun w => check4_any w T Tau)
  by_cases h1 : kd = 1
  · subst h1
    have HV : Hid (polB ⟨1, T, Tau, pm⟩ = decide (checkV T Tau = 0)) := Lib.hid rfl
    rcases checkV_cases T Tau with hc | hc
    all_goals
      rw [hc] at HK HV
      clear hc
      go_enter Try.func27, Try.ntmps27
      go_wp2_with fail
      with_reducible refine (HK.out _).mono ?_
      rintro e w1 ⟨rfl, hb⟩
      have HB := Lib.hid ((below_x1 w _).trans (hb.mono (by simp)))
      have bl := (BlkL.new w [.int .u8 (1 : Nat), .int .i64 T, .int .i64 Tau, .int .i64 pm] 52).below hb
      have c0 := bl.cell 0 _ rfl
      have c3 := bl.cell 3 _ rfl
      clear hb bl
      go_wp2
      go_ret
      exact ⟨by rw [HV.out] <;> rfl, HB.out⟩
  · have q1 := u8_ne1 h1
    clear HK
    by_cases h2 : kd = 2
    · subst h2
      have HV : Hid (polB ⟨2, T, Tau, pm⟩ = (decide (1 ≤ pm) && decide (pm ≤ 64))) := Lib.hid rfl
      clear h1 q1
      rcases hd : decide (1 ≤ pm) with _ | _
      all_goals
        rw [hd] at HV
        go_enter Try.func27, Try.ntmps27
        go_wp2
        go_ret
        exact ⟨by rw [HV.out] <;> rfl, below_x1 _ _⟩
    · have q2 := u8_ne2 h2
      have HV : Hid (polB ⟨kd, T, Tau, pm⟩ = false) := Lib.hid (by unfold polB; rw [if_neg h1, if_neg h2])
      clear h1 h2
      go_enter Try.func27, Try.ntmps27
      go_wp2
      go_ret
      exact ⟨by rw [HV.out] <;> rfl, below_x1 _ _⟩

def PolInv (w : World) (l : List PolM) (n : Nat) (iv : Value) (wr : World) : Prop :=
  ∃ i : Nat, i ≤ n ∧ iv = .int .i64 (i : Int) ∧ (l.take i).all polB = true ∧ Below w.heap.size w wr

set_option maxHeartbeats 1600000 in
theorem pols_any (w : World) (B : Nat) (A : Option Addr) (n c : Nat) (l : List PolM) (h : ArgC w B 4 A n c (FP l)) (hB : B ≤ w.heap.size) (hn : n ≤ 8796093022000) :
    Calls Try.prog 11 #[.slice A n c] w (ValEnd w (.int .i64 (polsV l))) := by
  have hln : l.length = n := by have := h.len; rw [FP_len] at this; omega
  have HLN := Lib.hid hln
  have HA := Lib.hid (h.more hB)
  have hle := h.le
  have hcap := h.cap
  unfold maxLen at hcap
  have HI := Lib.hid (fun w (p : PolM) => isPol_any w p.kind p.T p.Tau p.perm)
  clear h
  rcases Nat.lt_or_ge 32 n with h32 | h32
  · have HV : Hid (polsV l = 2) := Lib.hid (by unfold polsV; rw [if_pos (by omega)])
    have hd : decide ((32 : Int) < (n : Int)) = true := decide_eq_true (by omega)
    go_enter Try.func11, Try.ntmps11
    go_wp2
    go_ret
    exact ⟨by rw [HV.out] <;> rfl, Below.refl _ _⟩
  · have hd : decide ((32 : Int) < (n : Int)) = false := decide_eq_false (by omega)
    have n0 : (0 : Int) ≤ n := by omega
    have n1 : (n : Int) ≤ 32 := by omega
    have HP : Hid (polsV l = if l.all polB = true then 0 else 3) := Lib.hid (by unfold polsV; rw [if_neg (by omega)])
    clear hln
    go_enter Try.func11, Try.ntmps11
    go_wp2
    go_loopw [10] (fun iv wr => PolInv w l n iv wr) (fun iv _ => n - (intOf iv).toNat)
    case atStart => exact ⟨0, Nat.zero_le _, rfl, rfl, Below.refl _ _⟩
    case round =>
      obtain ⟨i, hi, rfl, hgood, hbel⟩ := hrel
      have hsz := hbel.size
      have HBEL := Lib.hid hbel
      have HGD := Lib.hid hgood
      have hAk := HA.out.below hbel
      clear hbel hgood
      rcases Nat.lt_or_ge i n with h1 | h1
      · obtain ⟨b, off, rfl, _, hc⟩ := hAk.at_ (by omega)
        have hf := fun j hj => FP_at l i j (by rw [HLN.out]; exact h1) hj
        have hc0 := (hc (i * 4) (by omega)).trans (hf 0 (by omega))
        have hc1 := (hc (i * 4 + 1) (by omega)).trans (hf 1 (by omega))
        have hc2 := (hc (i * 4 + 2) (by omega)).trans (hf 2 (by omega))
        have hc3 := (hc (i * 4 + 3) (by omega)).trans (hf 3 (by omega))
        have hsn := allP_snoc l i (by rw [HLN.out]; exact h1) HGD.out
        have hno := allP_not l i (by rw [HLN.out]; exact h1)
        clear hc hf hAk
        generalize l.getD i noPol = a at hc0 hc1 hc2 hc3 hsn hno
        obtain ⟨kd, T, Tau, pm⟩ := a
        simp only [PolM.cells, List.getElem?_cons_zero, List.getElem?_cons_succ] at hc0 hc1 hc2 hc3
        have hc1 : wr.cell? ⟨b, off + i * 4 + 1, none⟩ = some (.int .i64 T) := hc1
        have hc2 : wr.cell? ⟨b, off + i * 4 + 2, none⟩ = some (.int .i64 Tau) := hc2
        have hc3 : wr.cell? ⟨b, off + i * 4 + 3, none⟩ = some (.int .i64 pm) := hc3
        have ha := HI.out (wr.alloc (.cells #[.int .u8 (kd : Nat), .int .i64 T, .int .i64 Tau, .int .i64 pm] 52)) ⟨kd, T, Tau, pm⟩
        have HBA := Lib.hid (HBEL.out.trans ((below_x1 wr (.cells #[.int .u8 (kd : Nat), .int .i64 T, .int .i64 Tau, .int .i64 pm] 52)).mono hsz))
        rcases hok : polB ⟨kd, T, Tau, pm⟩ with _ | _
        · rw [hok] at ha
          have HAT := Lib.hid ha
          have HV : Hid (polsV l = 3) := Lib.hid (by rw [HP.out, hno hok]; rfl)
          clear ha hok hno hsn
          go_wp2_with fail
          with_reducible refine HAT.out.mono ?_
          rintro e w2 ⟨rfl, hw⟩
          have HB2 := Lib.hid (HBA.out.trans (hw.mono HBA.out.size))
          clear hw
          go_wp2
          go_ret
          exact ⟨by rw [HV.out] <;> rfl, HB2.out⟩
        · rw [hok] at ha
          have HAT := Lib.hid ha
          have HSN := Lib.hid (hsn hok)
          clear ha hok hno hsn
          go_wp2_with fail
          with_reducible refine HAT.out.mono ?_
          rintro e w2 ⟨rfl, hw⟩
          have HB2 := Lib.hid (HBA.out.trans (hw.mono HBA.out.size))
          clear hw
          go_wp2
          go_roundw
          case rel => exact ⟨i + 1, by omega, by go_num, HSN.out, HB2.out⟩
          case measure => simp [intOf]; omega
      · obtain rfl : i = n := by omega
        have hg2 := HGD.out
        rw [List.take_of_length_le (by rw [HLN.out]; exact Nat.le_refl _)] at hg2
        have HV : Hid (polsV l = 0) := Lib.hid (by rw [HP.out, if_pos hg2])
        clear hg2
        go_wp2
        go_ret
        exact ⟨by rw [HV.out] <;> rfl, HBEL.out⟩

set_option maxHeartbeats 1600000 in
theorem rpols_any (w : World) (B : Nat) (A : Option Addr) (n c : Nat) (l : List PolM) (h : ArgC w B 4 A n c (FP l)) (hB : B ≤ w.heap.size) (hn : n ≤ 8796093022000) :
    Calls Try.prog 12 #[.slice A n c] w (ValEnd w (.int .i64 (polsV l))) := by
  have hln : l.length = n := by have := h.len; rw [FP_len] at this; omega
  have HLN := Lib.hid hln
  have HA := Lib.hid (h.more hB)
  have hle := h.le
  have hcap := h.cap
  unfold maxLen at hcap
  have HI := Lib.hid (fun w (p : PolM) => form16_any w p.kind p.T p.Tau p.perm)
  clear h
  rcases Nat.lt_or_ge 32 n with h32 | h32
  · have HV : Hid (polsV l = 2) := Lib.hid (by unfold polsV; rw [if_pos (by omega)])
    have hd : decide ((32 : Int) < (n : Int)) = true := decide_eq_true (by omega)
    go_enter Try.func12, Try.ntmps12
    go_wp2
    go_ret
    exact ⟨by rw [HV.out] <;> rfl, Below.refl _ _⟩
  · have hd : decide ((32 : Int) < (n : Int)) = false := decide_eq_false (by omega)
    have n0 : (0 : Int) ≤ n := by omega
    have n1 : (n : Int) ≤ 32 := by omega
    have HP : Hid (polsV l = if l.all polB = true then 0 else 3) := Lib.hid (by unfold polsV; rw [if_neg (by omega)])
    clear hln
    go_enter Try.func12, Try.ntmps12
    go_wp2
    go_loopw [10] (fun iv wr => PolInv w l n iv wr) (fun iv _ => n - (intOf iv).toNat)
    case atStart => exact ⟨0, Nat.zero_le _, rfl, rfl, Below.refl _ _⟩
    case round =>
      obtain ⟨i, hi, rfl, hgood, hbel⟩ := hrel
      have hsz := hbel.size
      have HBEL := Lib.hid hbel
      have HGD := Lib.hid hgood
      have hAk := HA.out.below hbel
      clear hbel hgood
      rcases Nat.lt_or_ge i n with h1 | h1
      · obtain ⟨b, off, rfl, _, hc⟩ := hAk.at_ (by omega)
        have hf := fun j hj => FP_at l i j (by rw [HLN.out]; exact h1) hj
        have hc0 := (hc (i * 4) (by omega)).trans (hf 0 (by omega))
        have hc1 := (hc (i * 4 + 1) (by omega)).trans (hf 1 (by omega))
        have hc2 := (hc (i * 4 + 2) (by omega)).trans (hf 2 (by omega))
        have hc3 := (hc (i * 4 + 3) (by omega)).trans (hf 3 (by omega))
        have hsn := allP_snoc l i (by rw [HLN.out]; exact h1) HGD.out
        have hno := allP_not l i (by rw [HLN.out]; exact h1)
        clear hc hf hAk
        generalize l.getD i noPol = a at hc0 hc1 hc2 hc3 hsn hno
        obtain ⟨kd, T, Tau, pm⟩ := a
        simp only [PolM.cells, List.getElem?_cons_zero, List.getElem?_cons_succ] at hc0 hc1 hc2 hc3
        have hc1 : wr.cell? ⟨b, off + i * 4 + 1, none⟩ = some (.int .i64 T) := hc1
        have hc2 : wr.cell? ⟨b, off + i * 4 + 2, none⟩ = some (.int .i64 Tau) := hc2
        have hc3 : wr.cell? ⟨b, off + i * 4 + 3, none⟩ = some (.int .i64 pm) := hc3
        have ha := HI.out (wr.alloc (.cells #[.int .u8 (kd : Nat), .int .i64 T, .int .i64 Tau, .int .i64 pm] 52)) ⟨kd, T, Tau, pm⟩
        have HBA := Lib.hid (HBEL.out.trans ((below_x1 wr (.cells #[.int .u8 (kd : Nat), .int .i64 T, .int .i64 Tau, .int .i64 pm] 52)).mono hsz))
        rcases hok : polB ⟨kd, T, Tau, pm⟩ with _ | _
        · rw [hok] at ha
          have HAT := Lib.hid ha
          have HV : Hid (polsV l = 3) := Lib.hid (by rw [HP.out, hno hok]; rfl)
          clear ha hok hno hsn
          go_wp2_with fail
          with_reducible refine HAT.out.mono ?_
          rintro e w2 ⟨rfl, hw⟩
          have HB2 := Lib.hid (HBA.out.trans (hw.mono HBA.out.size))
          clear hw
          go_wp2
          go_ret
          exact ⟨by rw [HV.out] <;> rfl, HB2.out⟩
        · rw [hok] at ha
          have HAT := Lib.hid ha
          have HSN := Lib.hid (hsn hok)
          clear ha hok hno hsn
          go_wp2_with fail
          with_reducible refine HAT.out.mono ?_
          rintro e w2 ⟨rfl, hw⟩
          have HB2 := Lib.hid (HBA.out.trans (hw.mono HBA.out.size))
          clear hw
          go_wp2
          go_roundw
          case rel => exact ⟨i + 1, by omega, by go_num, HSN.out, HB2.out⟩
          case measure => simp [intOf]; omega
      · obtain rfl : i = n := by omega
        have hg2 := HGD.out
        rw [List.take_of_length_le (by rw [HLN.out]; exact Nat.le_refl _)] at hg2
        have HV : Hid (polsV l = 0) := Lib.hid (by rw [HP.out, if_pos hg2])
        clear hg2
        go_wp2
        go_ret
        exact ⟨by rw [HV.out] <;> rfl, HBEL.out⟩
end Go.Proofs.Ytnkecjjfbllgdaa
