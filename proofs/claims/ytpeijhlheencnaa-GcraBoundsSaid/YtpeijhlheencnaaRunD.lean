/- Contracts: DocRun of the document. -/
import Derived.Test.YtpeijhlheencnaaRunP
namespace Go.Proofs.Ytpeijhlheencnaa
open Go.RowKit
set_option maxRecDepth 100000
set_option linter.unusedVariables false

theorem drun_lim (w : World) (T Tau tat : Int) (A : Option Addr) (n c : Nat) (hc : rightB T Tau tat 0 0 = false) :
    Calls Try.prog 9 #[.agg #[.int .i64 T, .int .i64 Tau], .int .i64 tat, .slice A n c] w (ValEnd w (.tuple #[.slice none 0 0, .int .i64 1])) := by
  have hg := fun w => right5_any w T Tau tat 0 0
  rw [hc] at hg
  have HG := Lib.hid hg
  clear hg hc
  go_enter Try.func9, Try.ntmps9
  go_wp2_with fail
  with_reducible refine (HG.out _).mono ?_
  rintro e w1 ⟨rfl, hb⟩
  have HB := Lib.hid (((Below.refl w.heap.size w).alloc (Nat.le_refl _) _).trans (hb.mono (by simp)))
  clear hb
  go_wp2
  go_ret2
  exact ⟨rfl, HB.out⟩

def DChkInv (w : World) (l : List (Int × Int)) (n : Nat) (T Tau : Int) (iv : Value) (wr : World) : Prop :=
  ∃ i : Nat, i ≤ n ∧ iv = .int .i64 (i : Int) ∧ goodL (l.take i) = true ∧ BlkL wr w.heap.size [.int .i64 T, .int .i64 Tau] ∧ Below w.heap.size w wr

/-- How DocRun ends. -/
def DocEnd (w : World) (T Tau tat : Nat) (L : List (Nat × Nat)) (l : List (Int × Int)) (n : Nat) (e : Ending) (w' : World) : Prop :=
  (chkE l n ≠ 0 → e = .returned (.tuple #[.slice none 0 0, .int .i64 (chkE l n)]) ∧ Below w.heap.size w w') ∧
  (chkE l n = 0 → l = cast2 L → ∃ A' c', e = .returned (.tuple #[.slice A' n c', .int .i64 0]) ∧ OwnC w' w.heap.size 38 4 A' n c' (runC T Tau tat L n) ∧ Below w.heap.size w w')
theorem DocEnd.bad {w w' : World} {T Tau tat : Nat} {L : List (Nat × Nat)} {l : List (Int × Int)} {n : Nat} {er : Int} (h : chkE l n = er) (h0 : er ≠ 0) (hb : Below w.heap.size w w') :
    DocEnd w T Tau tat L l n (.returned (.tuple #[.slice none 0 0, .int .i64 er])) w' := ⟨fun _ => by rw [h]; exact ⟨rfl, hb⟩, fun h1 => absurd (h.symm.trans h1) h0⟩
theorem DocEnd.good {w w' : World} {T Tau tat : Nat} {L : List (Nat × Nat)} {l : List (Int × Int)} {n c : Nat} {A : Option Addr} (h : chkE l n = 0) (ho : OwnC w' w.heap.size 38 4 A n c (runC T Tau tat L n)) (hb : Below w.heap.size w w') :
    DocEnd w T Tau tat L l n (.returned (.tuple #[.slice A n c, .int .i64 0])) w' := ⟨fun h1 => absurd h h1, fun _ _ => ⟨A, c, rfl, ho, hb⟩⟩

set_option maxHeartbeats 3200000 in
theorem drun_any (w : World) (T Tau tat : Nat) (B : Nat) (A : Option Addr) (n c : Nat) (L : List (Nat × Nat)) (l : List (Int × Int)) (h : ArgC w B 2 A n c (F2 l)) (hB : B ≤ w.heap.size) (hn : n ≤ 8796093022000)
    (hT : 1 ≤ T) (hT2 : T ≤ 4611686018427387903) (hU : Tau ≤ 4611686018427387903) (ht : tat ≤ 4611686018427387903) (hL : goodL l = true → l = cast2 L ∧ ∀ a ∈ L, a.1 ≤ 4611686018427387903 ∧ a.2 ≤ 4611686018427387903)
    (hr : ∀ x y, rightB (T : Int) (Tau : Int) (tat : Int) x y = okA (x, y)) :
    Calls Try.prog 9 #[.agg #[.int .i64 (T : Int), .int .i64 (Tau : Int)], .int .i64 (tat : Int), .slice A n c] w (DocEnd w T Tau tat L l n) := by
  have hln : l.length = n := by have := h.len; rw [F2_len] at this; omega
  have HLN := Lib.hid hln
  have HL := Lib.hid hL
  have HA := Lib.hid (h.more hB)
  have hle := h.le
  have hcap := h.cap
  unfold maxLen at hcap
  have hg := fun w => right5_any w (T : Int) (Tau : Int) (tat : Int) 0 0
  rw [hr, show okA (0, 0) = true by decide] at hg
  have HG := Lib.hid hg
  have HR := Lib.hid (fun w x y => (hr x y) ▸ right5_any w (T : Int) (Tau : Int) (tat : Int) x y)
  have B0 := Lib.hid ((Below.refl w.heap.size w).alloc (Nat.le_refl _) (.cells #[.int .i64 (T : Int), .int .i64 (Tau : Int)] 23))
  have K0 := Lib.hid (BlkL.new w [.int .i64 (T : Int), .int .i64 (Tau : Int)] 23)
  clear h hln hL hg hr
  go_enter Try.func9, Try.ntmps9
  go_wp2_with fail
  with_reducible refine (HG.out _).mono ?_
  rintro e w1 ⟨rfl, hb⟩
  have HB1 := Lib.hid (B0.out.trans (hb.mono (by simp)))
  have K1 := Lib.hid (K0.out.below hb)
  clear hb B0 K0
  go_wp2
  go_loopw [20] (fun iv wr => DChkInv w l n (T : Int) (Tau : Int) iv wr) (fun iv _ => n - (intOf iv).toNat)
  case atStart => exact ⟨0, Nat.zero_le _, rfl, rfl, K1.out, HB1.out⟩
  case round =>
    obtain ⟨i, hi, rfl, hgood, hk, hbel⟩ := hrel
    clear HB1 K1
    have hsz := hbel.size
    have HBEL := Lib.hid hbel
    have HGD := Lib.hid hgood
    have HK := Lib.hid hk
    have hAk := HA.out.below hbel
    have l0 := hk.cell 0 _ rfl
    have l1 := hk.cell 1 _ rfl
    have zl := hk.lt
    clear hbel hgood hk
    rcases Nat.lt_or_ge i n with h1 | h1
    · obtain ⟨b, off, rfl, _, hc⟩ := hAk.at_ (by omega)
      have hf := F2_at l i (by rw [HLN.out]; exact h1)
      have hc0 := (hc (i * 2) (by omega)).trans hf.1
      have hc1 := (hc (i * 2 + 1) (by omega)).trans hf.2
      have hsn := goodL_snoc l i (by rw [HLN.out]; exact h1) HGD.out
      have hno := goodL_not l i (by rw [HLN.out]; exact h1)
      clear hc hf hAk
      generalize l.getD i (0, 0) = a at hc0 hc1 hsn hno
      obtain ⟨x, y⟩ := a
      simp only at hc0 hc1
      have hc1 : wr.cell? ⟨b, off + i * 2 + 1, none⟩ = some (.int .i64 y) := hc1
      have bl := (Below.refl wr.heap.size wr).alloc (Nat.le_refl _) (.cells #[.int .i64 x, .int .i64 y] 45)
      have HBA := Lib.hid (HBEL.out.trans (bl.mono hsz))
      have HKA := Lib.hid (HK.out.below bl)
      clear bl
      have ha := HR.out (wr.alloc (.cells #[.int .i64 x, .int .i64 y] 45)) x y
      rcases hok : okA (x, y) with _ | _
      · rw [hok] at ha
        have HAT := Lib.hid ha
        have HV : Hid (chkE l n = 1) := Lib.hid (by unfold chkE; rw [hno hok]; rfl)
        clear ha hok hno hsn
        go_wp2_with fail
        with_reducible refine HAT.out.mono ?_
        rintro e w2 ⟨rfl, hb⟩
        have HB2 := Lib.hid (HBA.out.trans (hb.mono (by simp; omega)))
        clear hb
        go_wp2
        go_ret2
        exact DocEnd.bad HV.out (by omega) HB2.out
      · rw [hok] at ha
        have HAT := Lib.hid ha
        have HSN := Lib.hid (hsn hok)
        clear ha hok hno hsn
        go_wp2_with fail
        with_reducible refine HAT.out.mono ?_
        rintro e w2 ⟨rfl, hb⟩
        have HB2 := Lib.hid (HBA.out.trans (hb.mono (by simp; omega)))
        have HK2 := Lib.hid (HKA.out.below hb)
        clear hb
        go_wp2
        go_roundw
        case rel => exact ⟨i + 1, by omega, by go_num, HSN.out, HK2.out, HB2.out⟩
        case measure => simp [intOf]; omega
    · obtain rfl : i = n := by omega
      have hg2 := HGD.out
      rw [List.take_of_length_le (by rw [HLN.out]; exact Nat.le_refl _)] at hg2
      rcases Nat.lt_or_ge 4096 i with h4 | h4
      · have HV : Hid (chkE l i = 2) := Lib.hid (by unfold chkE; rw [if_pos hg2, if_pos h4])
        have hd : decide ((4096 : Int) < (i : Int)) = true := decide_eq_true (by omega)
        clear hg2
        go_wp2
        go_ret2
        exact DocEnd.bad HV.out (by omega) HBEL.out
      · have HV : Hid (chkE l i = 0) := Lib.hid (by unfold chkE; rw [if_pos hg2, if_neg (by omega)])
        have hd : decide ((4096 : Int) < (i : Int)) = false := decide_eq_false (by omega)
        obtain ⟨hlc, hLb⟩ := HL.out hg2
        have hAc := HA.out
        rw [hlc] at hAc
        have HA2 := Lib.hid hAc
        have HLb := Lib.hid hLb
        have HLL : Hid (L.length = i) := Lib.hid (by rw [← HLN.out, hlc]; simp)
        have hzw : w.heap.size + 1 ≤ wr.heap.size := by omega
        have HO0 := Lib.hid (OwnC.nil wr (w.heap.size + 1) 38 4)
        clear hg2 hlc hAk hAc hLb l0 l1 zl
        go_wp2
        obtain ⟨wo, rfl⟩ : ∃ wo : World, wo = wr := ⟨_, rfl⟩
        go_loopw [1, 10, 38] (fun tv ov iv wr => RunInv w T Tau tat L i 38 tv ov iv wr) (fun _ _ iv _ => i - (intOf iv).toNat)
        case atStart => exact ⟨0, 0, tat, none, Nat.zero_le _, rfl, rfl, rfl, ht, rfl, HO0.out, HK.out, HBEL.out, hzw⟩
        case round =>
          obtain ⟨j, cc, t, C, hj, rfl, rfl, hte, htl, rfl, hown, hk, hbel, hsz2⟩ := hrel
          clear HO0 HK HBEL HGD
          have HOWN := Lib.hid hown
          have HBEL := Lib.hid hbel
          have HK := Lib.hid hk
          have HTE := Lib.hid hte
          have hAk := HA2.out.below hbel
          have l0 := hk.cell 0 _ rfl
          have l1 := hk.cell 1 _ rfl
          have zl := hk.lt
          clear hown hbel hk hte
          rcases Nat.lt_or_ge j i with h1' | h1'
          · obtain ⟨b, off, rfl, _, hc⟩ := hAk.at_ (by omega)
            have hil : j < L.length := by rw [HLL.out]; exact h1'
            have hf := F2_at (cast2 L) j (by simpa using hil)
            rw [cast_at L j hil] at hf
            have hc0 := (hc (j * 2) (by omega)).trans hf.1
            have hc1 := (hc (j * 2 + 1) (by omega)).trans hf.2
            have hm : L.getD j (0, 0) ∈ L := by
              rw [List.getD_eq_getElem?_getD, List.getElem?_eq_getElem hil]; exact List.getElem_mem hil
            have hbd := HLb.out _ hm
            have htk := tatAt_take T Tau tat L j hil
            have hrc : runC T Tau tat L (j + 1) = runC T Tau tat L j ++ ansC T Tau tat L j := rfl
            unfold ansC at hrc
            rw [← HTE.out] at htk hrc
            clear hc hf hAk hm
            generalize L.getD j (0, 0) = a at hc0 hc1 hbd htk hrc
            obtain ⟨x, y⟩ := a
            simp only at hc0 hc1 hbd htk hrc
            have hc1 : wr.cell? ⟨b, off + j * 2 + 1, none⟩ = some (.int .i64 (y : Int)) := hc1
            have HD := Lib.hid (decide5_any (wr.alloc (.cells #[.int .i64 (x : Int), .int .i64 (y : Int)] 45)) hT hT2 hU htl hbd.1 hbd.2)
            have htl2 := tatV_le (n := y) (Tau := Tau) hT htl hbd.1
            have HTK := Lib.hid htk
            have HRC := Lib.hid hrc
            unfold decV at HD
            clear htk hrc
            generalize grB T Tau t x y = g at *
            generalize leftV T Tau (tatV T Tau t x y) x = lf at *
            generalize tatV T Tau t x y = t2 at *
            generalize wtV T Tau t x y = wt at *
            have b1 := (Below.refl (w.heap.size + 1) wr).alloc hsz2 (.cells #[.int .i64 (x : Int), .int .i64 (y : Int)] 45)
            have ho1 := HOWN.out.below ((Below.refl wr.heap.size wr).alloc (Nat.le_refl _) (.cells #[.int .i64 (x : Int), .int .i64 (y : Int)] 45))
            go_wp2_with fail
            with_reducible refine HD.out.mono ?_
            rintro e w3 ⟨rfl, hb3⟩
            have b3 := (b1.trans (hb3.mono (by simp; omega)))
            have hs3 := b3.size
            have hs3' := Nat.le_trans hsz2 hs3
            have ho3 := ho1.below hb3
            have b4 := ((Below.refl w3.heap.size w3).alloc (Nat.le_refl _) (.cells #[.bool g, .int .i64 (t2 : Int), .int .i64 (wt : Int), .int .i64 (lf : Int)] 38)).alloc (by simp) (.cells #[.bool g, .int .i64 (t2 : Int), .int .i64 (wt : Int), .int .i64 (lf : Int)] 38)
            have kt := BlkL.new (w3.alloc (.cells #[.bool g, .int .i64 (t2 : Int), .int .i64 (wt : Int), .int .i64 (lf : Int)] 38)) [.bool g, .int .i64 (t2 : Int), .int .i64 (wt : Int), .int .i64 (lf : Int)] 38
            simp only [World.size_alloc] at kt
            have HKT := Lib.hid kt
            have HO4 := Lib.hid (ho3.below b4)
            have hb5 := b3.trans (b4.mono (by omega))
            have HB5 := Lib.hid hb5
            clear b1 ho1 hb3 b3 ho3 b4 kt HD hb5 l0 l1
            go_wp2_with (refine wpList_append_row rfl (.tmp 51) (.tmp 53) 32 rfl (w.heap.size + 1) 38 _ 4 32 Try.underlying32 ans5_info rfl (by omega) C j cc (runC T Tau tat L j) rfl HO4.out (w3.heap.size + 1) 1 [.bool g, .int .i64 (t2 : Int), .int .i64 (wt : Int), .int .i64 (lf : Int)] rfl rfl HKT.out.cell (by simp [Value.oneCell']) (by unfold maxLen; omega) (by omega) (by simp; omega) ?_)
            intro A2 c2 w5 ho5 hb6
            have ho6 : OwnC w5 (w.heap.size + 1) 38 4 A2 (j + 1) c2 (runC T Tau tat L (j + 1)) := by rw [HRC.out]; exact ho5
            have HO6 := Lib.hid ho6
            have hb7 := HB5.out.trans hb6
            have HK7 := Lib.hid (HK.out.keep hb7 (by omega))
            have HB7 := Lib.hid (HBEL.out.trans (hb7.mono (by omega)))
            have hs7 := Nat.le_trans hsz2 hb7.size
            clear ho5 ho6 hb6 hb7
            go_wp2
            go_roundw
            case rel => exact ⟨j + 1, _, t2, _, by omega, by go_num, rfl, HTK.out.symm, htl2, rfl, HO6.out, HK7.out, HB7.out, hs7⟩
            case measure => simp [intOf]; omega
          · obtain rfl : j = i := by omega
            clear l0 l1
            go_wp2
            go_ret2
            exact DocEnd.good HV.out (HOWN.out.mono (by omega)) HBEL.out
end Go.Proofs.Ytpeijhlheencnaa
