/- guard: what a name is; what New asks of hooks; a program is copied. -/
import Derived.Test.YtifldnkcheobhaaDoorGvB
import Derived.Test.YtifldnkcheobhaaDoorGuX
namespace Go.Proofs.YtifldnkcheobhaaDoor
open Go.RowKit
set_option maxRecDepth 100000
set_option linter.unusedVariables false
set_option linter.unusedSimpArgs false
set_option maxHeartbeats 4000000

theorem isName_any (w : World) (nm : ByteArray) :
    Calls Tryd.prog 30 #[.string nm] w fun e w' => e = .returned (.bool (nameB nm)) ∧ Below w.heap.size w w' := by
  rcases Nat.lt_or_ge nm.size 1 with hs | hs
  · have hb : nameB nm = false := by simp [nameB]; omega
    rw [hb]
    have h1 : (nm.size : Int) < 1 := by omega
    clear hb
    go_enter Tryd.func30, Tryd.ntmps30
    go_wp2
    go_ret
    exact ⟨rfl, Below.refl _ _⟩
  rcases Nat.lt_or_ge 16 nm.size with ht | ht
  · have hb : nameB nm = false := by simp [nameB]; omega
    rw [hb]
    have h1 : ¬ (nm.size : Int) < 1 := by omega
    have h2 : (16 : Int) < (nm.size : Int) := by omega
    clear hb
    go_enter Tryd.func30, Tryd.ntmps30
    go_wp2
    go_ret
    exact ⟨rfl, Below.refl _ _⟩
  have hnb : nameB nm = nm.data.toList.all isNm := by
    have e1 : decide (1 ≤ nm.size) = true := decide_eq_true hs
    have e2 : decide (nm.size ≤ 16) = true := decide_eq_true ht
    simp only [nameB, e1, e2, Bool.true_and]
  obtain ⟨R, hR⟩ : ∃ R, nameB nm = R := ⟨_, rfl⟩
  rw [hR] at hnb ⊢
  have HNB := Lib.hid hnb
  have hlen : nm.data.toList.length = nm.size := by rw [Array.length_toList]; rfl
  have HLEN := Lib.hid hlen
  have h1 : ¬ (nm.size : Int) < 1 := by omega
  have h2 : ¬ (16 : Int) < (nm.size : Int) := by omega
  clear hR hnb hlen
  go_enter Tryd.func30, Tryd.ntmps30
  go_wp2_with fail
  rw [Lib.run_convert_string_bytes w 9 109 5 nm Tryd.underlying9 Tryd.underlying109 Tryd.underlying5]
  simp only [Result.andThen]
  rw [Oper.upon_value]
  have c0 := Lib.bytesWorld_cell w 5 nm
  have hbw : Below w.heap.size w (Lib.bytesWorld w 5 nm) := Lib.bytesWorld_below w _ nm
  revert c0 hbw
  generalize Lib.bytesWorld w 5 nm = w1
  intro c0 hbw
  have HB := Lib.hid hbw
  have HC := Lib.hid c0
  clear hbw c0
  go_wp2_with fail
  go_loopw [16] (fun iv wr => wr = w1 ∧ ∃ i : Nat, i ≤ nm.size ∧ iv = .int .i64 (i : Int) ∧ (nm.data.toList.take i).all isNm = true) (fun iv _ => nm.size - (intOf iv).toNat)
  case atStart => exact ⟨rfl, 0, Nat.zero_le _, rfl, rfl⟩
  case round =>
    obtain ⟨rfl, i, hi, rfl, hall⟩ := hrel
    have HA := Lib.hid hall
    clear hall
    rcases Nat.lt_or_ge i nm.size with h3 | h3
    · have hii : (i : Int) < (nm.size : Int) := by omega
      have hi1 : IntKind.i64.wrap ((i : Int) + 1) = ((i + 1 : Nat) : Int) := by rw [IntWalk.i64_in _ (by omega)]; omega
      have cc := HC.out i h3
      obtain ⟨c, hc⟩ : ∃ c, nm.data.toList.getD i 0 = c := ⟨_, rfl⟩
      rw [hc] at cc
      have htk : nm.data.toList.take (i + 1) = nm.data.toList.take i ++ [c] := by
        rw [List.take_succ_eq_append_getElem (by rw [HLEN.out]; exact h3), ← hc, List.getD_eq_getElem?_getD, List.getElem?_eq_getElem (by rw [HLEN.out]; exact h3)]
        rfl
      have hmem : c ∈ nm.data.toList := by
        rw [← hc, List.getD_eq_getElem?_getD, List.getElem?_eq_getElem (by rw [HLEN.out]; exact h3)]
        exact List.getElem_mem _
      obtain ⟨d, hd⟩ : ∃ d, isNm c = d := ⟨_, rfl⟩
      have hdd : ((decide ((97 : Int) ≤ (c.toNat : Int)) && decide ((c.toNat : Int) ≤ 122)) || (decide ((48 : Int) ≤ (c.toNat : Int)) && decide ((c.toNat : Int) ≤ 57))) = d := by
        rw [← hd]
        unfold isNm
        rw [show decide ((97 : Int) ≤ (c.toNat : Int)) = decide (97 ≤ c.toNat) from by rw [decide_eq_decide]; omega, show decide ((c.toNat : Int) ≤ 122) = decide (c.toNat ≤ 122) from by rw [decide_eq_decide]; omega, show decide ((48 : Int) ≤ (c.toNat : Int)) = decide (48 ≤ c.toNat) from by rw [decide_eq_decide]; omega, show decide ((c.toNat : Int) ≤ 57) = decide (c.toNat ≤ 57) from by rw [decide_eq_decide]; omega]
      have HD := Lib.hid hd
      have HTK := Lib.hid htk
      have HM := Lib.hid hmem
      generalize c.toNat = n at cc hdd
      clear hc hd htk hmem
      cases d with
      | true =>
        have HN : Hid ((nm.data.toList.take (i + 1)).all isNm = true) := Lib.hid (by rw [HTK.out, List.all_append, HA.out]; simp [HD.out])
        by_cases a1 : (97 : Int) ≤ (n : Int) <;> by_cases a2 : (n : Int) ≤ 122 <;> by_cases a3 : (48 : Int) ≤ (n : Int) <;> by_cases a4 : (n : Int) ≤ 57
        all_goals
          first
            | (exfalso; omega)
            | (exfalso; simp [a1, a2, a3, a4] at hdd; done)
            | (clear hdd
               go_wp2
               go_roundw
               case rel => first | exact ⟨rfl, i + 1, by omega, rfl, HN.out⟩ | exact ⟨trivial, i + 1, by omega, rfl, HN.out⟩
               case measure => simp [intOf]; omega)
      | false =>
        have HR : Hid (R = false) := Lib.hid (by
          rw [HNB.out]
          cases he : nm.data.toList.all isNm with
          | false => rfl
          | true => have := List.all_eq_true.1 he c HM.out; rw [HD.out] at this; cases this)
        by_cases a1 : (97 : Int) ≤ (n : Int) <;> by_cases a2 : (n : Int) ≤ 122 <;> by_cases a3 : (48 : Int) ≤ (n : Int) <;> by_cases a4 : (n : Int) ≤ 57
        all_goals
          first
            | (exfalso; omega)
            | (exfalso; simp [a1, a2, a3, a4] at hdd; done)
            | (clear hdd
               go_wp2
               go_ret
               exact ⟨by rw [HR.out] <;> rfl, HB.out⟩)
    · obtain rfl : i = nm.size := by omega
      have hii : ¬ (nm.size : Int) < (nm.size : Int) := by omega
      have HR : Hid (R = true) := Lib.hid (by rw [HNB.out, ← HA.out, ← HLEN.out, List.take_length])
      go_wp2
      go_ret
      exact ⟨by rw [HR.out] <;> rfl, HB.out⟩
theorem ActP.src {w : World} {B c : Nat} {A : Option Addr} {f : List ActV} (h : ActP w B (.slice A f.length c) f) : SrcS w 2 A f.length (FAc f) := by
  obtain ⟨A', c', he, h2, h3⟩ := h
  injection he with e1 e2 e3
  subst e1
  have hl : ∀ g : List ActV, (FAc g).length = g.length * 2 := by intro g; induction g with | nil => rfl | cons a r ih => simp [FAc] at ih ⊢; omega
  refine ⟨hl f, fun e => by rw [h2 e]; rfl, fun ad hd j u hj => ?_, fun u hu => ?_⟩
  · obtain ⟨k1, k2, k3, k4⟩ := h3 ad hd
    have hj2 : j < (FAc f).length := (List.getElem?_eq_some_iff.1 hj).1
    rw [hl] at hj2
    obtain ⟨x, hx⟩ : ∃ x, f[j / 2]? = some x := ⟨f[j / 2], List.getElem?_eq_getElem (by omega)⟩
    obtain ⟨f0, f1⟩ := FAc_at f _ x hx
    obtain ⟨q0, q1⟩ := k4 _ x hx
    rw [k1, add_litV]
    rcases Nat.mod_two_eq_zero_or_one j with hm | hm
    · have e : j = j / 2 * 2 := by omega
      rw [e, f0] at hj
      injection hj with hj
      subst hj
      rw [e]
      exact q0
    · have e : j = j / 2 * 2 + 1 := by omega
      rw [e, f1] at hj
      injection hj with hj
      subst hj
      rw [e, ← Nat.add_assoc]
      exact q1
  · simp only [FAc, List.mem_flatMap] at hu
    obtain ⟨x, _, hx⟩ := hu
    simp at hx
    rcases hx with rfl | rfl <;> rfl
theorem clone_any (w : World) (B : Nat) (F : Value) (f : List ActV) (h : ActP w B F f) (hB : B ≤ w.heap.size) (hl : f.length ≤ 64) :
    Calls Tryd.prog 40 #[F] w fun e w' => ∃ A' c', e = .returned (.slice A' f.length c') ∧ OwnS w' w.heap.size 2 A' f.length c' (FAc f) ∧ Below w.heap.size w w' := by
  obtain ⟨iA, hiA, hA0, hA1, hA2⟩ := info_partsAct
  have b1 := (Below.refl w.heap.size w).alloc (Nat.le_refl _) (.cells #[] 24)
  have h1 := h.below (b1.mono hB)
  have h2 := h
  obtain ⟨A, c, rfl, hn, -⟩ := h
  cases A with
  | none =>
    have hf : f = [] := hn rfl
    subst hf
    clear h1 h2 b1
    simp only [List.length_nil]
    have hcmp : ∀ w : World, (binOp .eql 33 (.slice none 0 c) (.slice none 0 0)).run Tryd.prog w = .ok (.bool true) w := fun w => Lib.run_eql_slice_nil w _ _ _ _ _ 0 0 Tryd.underlying33
    go_enter Tryd.func40, Tryd.ntmps40
    go_wp2
    go_ret
    exact ⟨none, 0, rfl, OwnS.nil _ _ _, Below.refl _ _⟩
  | some a =>
    have HSRC := Lib.hid h1.src
    have HO := Lib.hid (OwnS.lit (k := 2) (n := 0) (B := w.heap.size) (BlkL.new w [] 24) rfl (by unfold maxLen; omega) (Nat.le_refl _))
    have HB := Lib.hid b1
    have hcmp : ∀ w : World, (binOp .eql 33 (.slice (some a) f.length c) (.slice none 0 0)).run Tryd.prog w = .ok (.bool false) w := fun w => Lib.run_eql_slice_nil w _ _ _ _ _ 0 0 Tryd.underlying33
    clear b1 h1 h2 hn
    go_enter Tryd.func40, Tryd.ntmps40
    go_wp2_with (refine wpList_append_s Tryd.underlying33 hiA hA0 hA1 hA2 rfl rfl (.tmp 5) (.tmp 6) rfl rfl HO.out (some a) f.length c _ rfl HSRC.out (fun e => by cases e) (by omega) (by omega) (HB.out.size) ?_)
    intro A3 c3 w5 ho5 hf5 hbk5
    have HO5 := Lib.hid ho5
    have HB5 : Hid (Below w.heap.size w w5) := Lib.hid (HB.out.trans (hf5.below HB.out.size (by simp [bkV])))
    clear ho5 hf5 hbk5
    go_wp2
    go_ret
    exact ⟨A3, c3, rfl, HO5.out, HB5.out⟩
end Go.Proofs.YtifldnkcheobhaaDoor
