/- The law TokenOne: its walk. -/
import Derived.Test.YtlkkldegbopnpaaTokZ
namespace Go.Proofs.Ytlkkldegbopnpaa
open Go.RowKit
set_option maxRecDepth 100000
set_option linter.unusedVariables false

/-- Cut off anywhere a token's bytes are none. -/
theorem cut_none {p s k : Nat} {zs : List Nat} (hk : k < zs.length + 16) : ¬ decOk ((tokV p zs s).take k) := by
  rintro ⟨hl, _⟩
  have h1 := tokV_len p zs s
  have h3 := tokV_3 p zs s
  rw [List.length_take, h1, Nat.min_eq_left (by omega)] at hl
  have hk4 : 16 ≤ k := by omega
  have e : ((tokV p zs s).take k).getD 3 0 = zs.length := by
    rw [← h3]
    simp [List.getD_eq_getElem?_getD, show 3 < k by omega]
  rw [e] at hl
  omega
/-- With bytes behind it is none. -/
theorem more_none {p s : Nat} {zs ms : List Nat} (hm : 0 < ms.length) : ¬ decOk (tokV p zs s ++ ms) := by
  rintro ⟨hl, _⟩
  have h1 := tokV_len p zs s
  have h3 := tokV_3 p zs s
  have e : (tokV p zs s ++ ms).getD 3 0 = zs.length := by
    rw [← h3]
    simp [List.getD_eq_getElem?_getD, List.getElem?_append, show 3 < (tokV p zs s).length by omega]
  rw [e, List.length_append, h1] at hl
  omega

theorem enc_cases (p s : Int) (A : Option Addr) (n c : Nat) :
    (∃ er : Int, (er != 0) = true ∧ (er == 0) = false ∧ Hid (∀ w, Calls Try.prog 17 #[TokA p s A n c] w (ValEnd w (.tuple #[.slice none 0 0, .int .i64 er])))) ∨ ∃ p' s' : Nat, p = (p' : Int) ∧ s = (s' : Int) ∧ p' < 32 ∧ 1 ≤ s' ∧ s' ≤ 4611686018427387903 ∧ n ≤ 255 := by
  by_cases h1 : ((decide (0 ≤ p) && decide (p < 32)) && (decide (1 ≤ s) && decide (s ≤ 4611686018427387903))) = true
  · have h1' := h1
    simp only [Bool.and_eq_true, decide_eq_true_eq] at h1'
    obtain ⟨⟨g1, g2⟩, g3, g4⟩ := h1'
    obtain ⟨p, rfl⟩ := Int.eq_ofNat_of_zero_le g1
    obtain ⟨s, rfl⟩ := Int.eq_ofNat_of_zero_le (show 0 ≤ s by omega)
    rcases Nat.lt_or_ge 255 n with h2 | h2
    · exact .inl ⟨2, rfl, rfl, Lib.hid fun w => encode_long w _ _ A n c (Lib.hid (by simp; omega)) (Lib.hid (by simp; omega)) h2⟩
    · exact .inr ⟨p, s, rfl, rfl, by omega, by omega, by omega, h2⟩
  · exact .inl ⟨1, rfl, rfl, Lib.hid fun w => encode_bad w p s A n c (Lib.hid (Bool.eq_false_iff.2 h1))⟩

set_option maxHeartbeats 1600000 in
theorem tokenOne_ee (pa sa pb sb : Int) (A B : Option Addr) (na ca nb cb : Nat) (xs ys : List Nat) (cut : Int) (M : Option Addr) (m mc : Nat) (ms : List Nat) (w : World) (era erb : Int) (ra : (era != 0) = true) (ra2 : (era == 0) = false) (rb : (erb != 0) = true) (rb2 : (erb == 0) = false) (HEA : Hid (∀ w, Calls Try.prog 17 #[TokA pa sa A na ca] w (ValEnd w (.tuple #[.slice none 0 0, .int .i64 era])))) (HEB : Hid (∀ w, Calls Try.prog 17 #[TokA pb sb B nb cb] w (ValEnd w (.tuple #[.slice none 0 0, .int .i64 erb])))) :
    Calls Try.prog 6 #[TokA pa sa A na ca, TokA pb sb B nb cb, .int .u8 cut, .slice M m mc] w (ValEnd w (.bool true)) := by
  have b1 := (Below.refl w.heap.size w).alloc (Nat.le_refl _) (.cells (tokB pa sa A na ca).toArray 24)
  have b0 := b1.alloc (by simp) (.cells (tokB pb sb B nb cb).toArray 24)
  have ka := (BlkL.new w (tokB pa sa A na ca) 24).alloc (.cells (tokB pb sb B nb cb).toArray 24)
  have kb := BlkL.new (w.alloc (.cells (tokB pa sa A na ca).toArray 24)) (tokB pb sb B nb cb) 24
  simp only [World.size_alloc] at kb
  have HB0 := Lib.hid b0
  have KA0 := Lib.hid ka
  have KB0 := Lib.hid kb
  clear b0 b1 ka kb
  go_enter Try.func6, Try.ntmps6
  go_wp2_with fail
  with_reducible refine (awake7_any _).mono ?_
  rintro e w1 ⟨rfl, hb⟩
  have KA1 := Lib.hid (KA0.out.below hb)
  have KB1 := Lib.hid (KB0.out.below hb)
  have HB1 := Lib.hid (HB0.out.trans (hb.mono (by simp; try omega)))
  have hz1 := HB1.out.size
  clear hb KA0 KB0 HB0
  have ca1 := KA1.out
  have cb1 := KB1.out
  have a0 := ca1.cell 0 _ rfl
  have a1 := ca1.cell 1 _ rfl
  have a2 := ca1.cell 2 _ rfl
  have e0 := cb1.cell 0 _ rfl
  have e1 := cb1.cell 1 _ rfl
  have e2 := cb1.cell 2 _ rfl
  have za := ca1.lt
  have zb := cb1.lt
  clear ca1 cb1
  go_wp2_with fail
  with_reducible refine (HEA.out _).mono ?_
  rintro e w2 ⟨rfl, hb⟩
  have KA2 := Lib.hid (KA1.out.below hb)
  have KB2 := Lib.hid (KB1.out.below hb)
  have HB2 := Lib.hid (HB1.out.trans (hb.mono hz1))
  have hz2 := HB2.out.size
  clear hb KA1 KB1 HB1
  clear a0 a1 a2 e0 e1 e2 za zb
  have ca2 := KA2.out
  have cb2 := KB2.out
  have a0 := ca2.cell 0 _ rfl
  have a1 := ca2.cell 1 _ rfl
  have a2 := ca2.cell 2 _ rfl
  have e0 := cb2.cell 0 _ rfl
  have e1 := cb2.cell 1 _ rfl
  have e2 := cb2.cell 2 _ rfl
  have za := ca2.lt
  have zb := cb2.lt
  clear ca2 cb2
  go_wp2_with fail
  with_reducible refine (HEB.out _).mono ?_
  rintro e w3 ⟨rfl, hb⟩
  have KA3 := Lib.hid (KA2.out.below hb)
  have KB3 := Lib.hid (KB2.out.below hb)
  have HB3 := Lib.hid (HB2.out.trans (hb.mono hz2))
  have hz3 := HB3.out.size
  clear hb KA2 KB2 HB2
  clear a0 a1 a2 e0 e1 e2 za zb
  go_wp2
  go_ret
  exact ⟨rfl, HB3.out⟩

set_option maxHeartbeats 1600000 in
theorem tokenOne_eg (pa sa pb sb : Int) (A B : Option Addr) (na ca nb cb : Nat) (xs ys : List Nat) (cut : Int) (M : Option Addr) (m mc : Nat) (ms : List Nat) (w : World) (era : Int) (ra : (era != 0) = true) (ra2 : (era == 0) = false) (HEA : Hid (∀ w, Calls Try.prog 17 #[TokA pa sa A na ca] w (ValEnd w (.tuple #[.slice none 0 0, .int .i64 era])))) (HEB : Hid (∀ w', Below w.heap.size w w' → Calls Try.prog 17 #[TokA pb sb B nb cb] w' (NewB w' (tokV pb.toNat ys sb.toNat) (nb + 16)))) :
    Calls Try.prog 6 #[TokA pa sa A na ca, TokA pb sb B nb cb, .int .u8 cut, .slice M m mc] w (ValEnd w (.bool true)) := by
  have b1 := (Below.refl w.heap.size w).alloc (Nat.le_refl _) (.cells (tokB pa sa A na ca).toArray 24)
  have b0 := b1.alloc (by simp) (.cells (tokB pb sb B nb cb).toArray 24)
  have ka := (BlkL.new w (tokB pa sa A na ca) 24).alloc (.cells (tokB pb sb B nb cb).toArray 24)
  have kb := BlkL.new (w.alloc (.cells (tokB pa sa A na ca).toArray 24)) (tokB pb sb B nb cb) 24
  simp only [World.size_alloc] at kb
  have HB0 := Lib.hid b0
  have KA0 := Lib.hid ka
  have KB0 := Lib.hid kb
  clear b0 b1 ka kb
  go_enter Try.func6, Try.ntmps6
  go_wp2_with fail
  with_reducible refine (awake7_any _).mono ?_
  rintro e w1 ⟨rfl, hb⟩
  have KA1 := Lib.hid (KA0.out.below hb)
  have KB1 := Lib.hid (KB0.out.below hb)
  have HB1 := Lib.hid (HB0.out.trans (hb.mono (by simp; try omega)))
  have hz1 := HB1.out.size
  clear hb KA0 KB0 HB0
  have ca1 := KA1.out
  have cb1 := KB1.out
  have a0 := ca1.cell 0 _ rfl
  have a1 := ca1.cell 1 _ rfl
  have a2 := ca1.cell 2 _ rfl
  have e0 := cb1.cell 0 _ rfl
  have e1 := cb1.cell 1 _ rfl
  have e2 := cb1.cell 2 _ rfl
  have za := ca1.lt
  have zb := cb1.lt
  clear ca1 cb1
  go_wp2_with fail
  with_reducible refine (HEA.out _).mono ?_
  rintro e w2 ⟨rfl, hb⟩
  have KA2 := Lib.hid (KA1.out.below hb)
  have KB2 := Lib.hid (KB1.out.below hb)
  have HB2 := Lib.hid (HB1.out.trans (hb.mono hz1))
  have hz2 := HB2.out.size
  clear hb KA1 KB1 HB1
  clear a0 a1 a2 e0 e1 e2 za zb
  have ca2 := KA2.out
  have cb2 := KB2.out
  have a0 := ca2.cell 0 _ rfl
  have a1 := ca2.cell 1 _ rfl
  have a2 := ca2.cell 2 _ rfl
  have e0 := cb2.cell 0 _ rfl
  have e1 := cb2.cell 1 _ rfl
  have e2 := cb2.cell 2 _ rfl
  have za := ca2.lt
  have zb := cb2.lt
  clear ca2 cb2
  go_wp2_with fail
  with_reducible refine (HEB.out _ HB2.out).mono ?_
  rintro e w3 ⟨Q, qc, rfl, hoq, hb⟩
  have HB3 := Lib.hid (HB2.out.trans (hb.mono hz2))
  clear hb hoq
  clear a0 a1 a2 e0 e1 e2 za zb
  go_wp2
  go_ret
  exact ⟨rfl, HB3.out⟩

set_option maxHeartbeats 1600000 in
theorem tokenOne_ge (pa sa pb sb : Int) (A B : Option Addr) (na ca nb cb : Nat) (xs ys : List Nat) (cut : Int) (M : Option Addr) (m mc : Nat) (ms : List Nat) (w : World) (erb : Int) (rb : (erb != 0) = true) (rb2 : (erb == 0) = false) (HEA : Hid (∀ w', Below w.heap.size w w' → Calls Try.prog 17 #[TokA pa sa A na ca] w' (NewB w' (tokV pa.toNat xs sa.toNat) (na + 16)))) (HEB : Hid (∀ w, Calls Try.prog 17 #[TokA pb sb B nb cb] w (ValEnd w (.tuple #[.slice none 0 0, .int .i64 erb])))) :
    Calls Try.prog 6 #[TokA pa sa A na ca, TokA pb sb B nb cb, .int .u8 cut, .slice M m mc] w (ValEnd w (.bool true)) := by
  have b1 := (Below.refl w.heap.size w).alloc (Nat.le_refl _) (.cells (tokB pa sa A na ca).toArray 24)
  have b0 := b1.alloc (by simp) (.cells (tokB pb sb B nb cb).toArray 24)
  have ka := (BlkL.new w (tokB pa sa A na ca) 24).alloc (.cells (tokB pb sb B nb cb).toArray 24)
  have kb := BlkL.new (w.alloc (.cells (tokB pa sa A na ca).toArray 24)) (tokB pb sb B nb cb) 24
  simp only [World.size_alloc] at kb
  have HB0 := Lib.hid b0
  have KA0 := Lib.hid ka
  have KB0 := Lib.hid kb
  clear b0 b1 ka kb
  go_enter Try.func6, Try.ntmps6
  go_wp2_with fail
  with_reducible refine (awake7_any _).mono ?_
  rintro e w1 ⟨rfl, hb⟩
  have KA1 := Lib.hid (KA0.out.below hb)
  have KB1 := Lib.hid (KB0.out.below hb)
  have HB1 := Lib.hid (HB0.out.trans (hb.mono (by simp; try omega)))
  have hz1 := HB1.out.size
  clear hb KA0 KB0 HB0
  have ca1 := KA1.out
  have cb1 := KB1.out
  have a0 := ca1.cell 0 _ rfl
  have a1 := ca1.cell 1 _ rfl
  have a2 := ca1.cell 2 _ rfl
  have e0 := cb1.cell 0 _ rfl
  have e1 := cb1.cell 1 _ rfl
  have e2 := cb1.cell 2 _ rfl
  have za := ca1.lt
  have zb := cb1.lt
  clear ca1 cb1
  go_wp2_with fail
  with_reducible refine (HEA.out _ HB1.out).mono ?_
  rintro e w2 ⟨P, pc, rfl, hop, hb⟩
  have KA2 := Lib.hid (KA1.out.below hb)
  have KB2 := Lib.hid (KB1.out.below hb)
  have HB2 := Lib.hid (HB1.out.trans (hb.mono hz1))
  have hz2 := HB2.out.size
  clear hb hop KA1 KB1 HB1
  clear a0 a1 a2 e0 e1 e2 za zb
  have ca2 := KA2.out
  have cb2 := KB2.out
  have a0 := ca2.cell 0 _ rfl
  have a1 := ca2.cell 1 _ rfl
  have a2 := ca2.cell 2 _ rfl
  have e0 := cb2.cell 0 _ rfl
  have e1 := cb2.cell 1 _ rfl
  have e2 := cb2.cell 2 _ rfl
  have za := ca2.lt
  have zb := cb2.lt
  clear ca2 cb2
  go_wp2_with fail
  with_reducible refine (HEB.out _).mono ?_
  rintro e w3 ⟨rfl, hb⟩
  have KA3 := Lib.hid (KA2.out.below hb)
  have KB3 := Lib.hid (KB2.out.below hb)
  have HB3 := Lib.hid (HB2.out.trans (hb.mono hz2))
  have hz3 := HB3.out.size
  clear hb KA2 KB2 HB2
  clear a0 a1 a2 e0 e1 e2 za zb
  go_wp2
  go_ret
  exact ⟨rfl, HB3.out⟩

set_option maxHeartbeats 1600000 in
theorem tokenOne_gg (pa sa pb sb : Nat) (A B : Option Addr) (na ca nb cb : Nat) (xs ys : List Nat) (cut : Int) (M : Option Addr) (m mc : Nat) (ms : List Nat) (w : World) (ha : Arg w w.heap.size A na ca xs) (hb : Arg w w.heap.size B nb cb ys) (hm : Arg w w.heap.size M m mc ms) (hpa : pa < 32) (hsa1 : 1 ≤ sa) (hsa2 : sa ≤ 4611686018427387903) (hna : na ≤ 255) (hpb : pb < 32) (hsb1 : 1 ≤ sb) (hsb2 : sb ≤ 4611686018427387903) (hnb : nb ≤ 255) (hct : 0 ≤ cut) (hct2 : cut ≤ 255) (hmc : mc ≤ 140737488351232) :
    Calls Try.prog 6 #[TokA pa sa A na ca, TokA pb sb B nb cb, .int .u8 cut, .slice M m mc] w (ValEnd w (.bool true)) := by
  have b1 := (Below.refl w.heap.size w).alloc (Nat.le_refl _) (.cells (tokB pa sa A na ca).toArray 24)
  have b0 := b1.alloc (by simp) (.cells (tokB pb sb B nb cb).toArray 24)
  have ka := (BlkL.new w (tokB pa sa A na ca) 24).alloc (.cells (tokB pb sb B nb cb).toArray 24)
  have kb := BlkL.new (w.alloc (.cells (tokB pa sa A na ca).toArray 24)) (tokB pb sb B nb cb) 24
  simp only [World.size_alloc] at kb
  have HB0 := Lib.hid b0
  have KA0 := Lib.hid ka
  have KB0 := Lib.hid kb
  obtain ⟨ct, rfl⟩ := Int.eq_ofNat_of_zero_le hct
  have HA0 := Lib.hid (ha.below b0)
  have HC0 := Lib.hid (hb.below b0)
  have HM0 := Lib.hid (hm.below b0)
  have HLA := Lib.hid ha.len
  have HLB := Lib.hid hb.len
  have HLM := Lib.hid hm.len
  have hlm := hm.le
  clear ha hb hm
  clear b0 b1 ka kb
  go_enter Try.func6, Try.ntmps6
  go_wp2_with fail
  with_reducible refine (awake7_any _).mono ?_
  rintro e w1 ⟨rfl, hb⟩
  have KA1 := Lib.hid (KA0.out.below hb)
  have KB1 := Lib.hid (KB0.out.below hb)
  have HA1 := Lib.hid (HA0.out.below (hb.mono (by simp; try omega)))
  have HC1 := Lib.hid (HC0.out.below (hb.mono (by simp; try omega)))
  have HM1 := Lib.hid (HM0.out.below (hb.mono (by simp; try omega)))
  have HB1 := Lib.hid (HB0.out.trans (hb.mono (by simp; try omega)))
  have hz1 := HB1.out.size
  clear hb KA0 KB0 HB0 HA0 HC0 HM0
  have ca1 := KA1.out
  have cb1 := KB1.out
  have a0 := ca1.cell 0 _ rfl
  have a1 := ca1.cell 1 _ rfl
  have a2 := ca1.cell 2 _ rfl
  have e0 := cb1.cell 0 _ rfl
  have e1 := cb1.cell 1 _ rfl
  have e2 := cb1.cell 2 _ rfl
  have za := ca1.lt
  have zb := cb1.lt
  clear ca1 cb1
  go_wp2_with fail
  with_reducible refine (encode_good _ _ pa sa A na ca xs HA1.out hz1 hpa hsa1 hsa2 hna).mono ?_
  rintro e w2 ⟨P, pc, rfl, hop, hb⟩
  have KA2 := Lib.hid (KA1.out.below hb)
  have KB2 := Lib.hid (KB1.out.below hb)
  have HA2 := Lib.hid (HA1.out.below (hb.mono hz1))
  have HC2 := Lib.hid (HC1.out.below (hb.mono hz1))
  have HM2 := Lib.hid (HM1.out.below (hb.mono hz1))
  have HP2 := Lib.hid hop.arg
  have HB2 := Lib.hid (HB1.out.trans (hb.mono hz1))
  have hz2 := HB2.out.size
  clear hb hop KA1 KB1 HB1 HA1 HC1 HM1
  clear a0 a1 a2 e0 e1 e2 za zb
  have ca2 := KA2.out
  have cb2 := KB2.out
  have a0 := ca2.cell 0 _ rfl
  have a1 := ca2.cell 1 _ rfl
  have a2 := ca2.cell 2 _ rfl
  have e0 := cb2.cell 0 _ rfl
  have e1 := cb2.cell 1 _ rfl
  have e2 := cb2.cell 2 _ rfl
  have za := ca2.lt
  have zb := cb2.lt
  clear ca2 cb2
  go_wp2_with fail
  with_reducible refine (encode_good _ _ pb sb B nb cb ys HC2.out hz2 hpb hsb1 hsb2 hnb).mono ?_
  rintro e w3 ⟨Q, qc, rfl, hoq, hb⟩
  have KA3 := Lib.hid (KA2.out.below hb)
  have KB3 := Lib.hid (KB2.out.below hb)
  have HA3 := Lib.hid (HA2.out.below (hb.mono hz2))
  have HC3 := Lib.hid (HC2.out.below (hb.mono hz2))
  have HM3 := Lib.hid (HM2.out.below (hb.mono hz2))
  have HP3 := Lib.hid (HP2.out.below hb)
  have HQ3 := Lib.hid hoq.arg
  have HB3 := Lib.hid (HB2.out.trans (hb.mono hz2))
  have hz3 := HB3.out.size
  have hz23 := hb.size
  clear hb hoq KA2 KB2 HB2 HA2 HC2 HM2 HP2
  clear a0 a1 a2 e0 e1 e2 za zb
  have ca3 := KA3.out
  have cb3 := KB3.out
  have a0 := ca3.cell 0 _ rfl
  have a1 := ca3.cell 1 _ rfl
  have a2 := ca3.cell 2 _ rfl
  have e0 := cb3.cell 0 _ rfl
  have e1 := cb3.cell 1 _ rfl
  have e2 := cb3.cell 2 _ rfl
  have za := ca3.lt
  have zb := cb3.lt
  clear ca3 cb3
  obtain ⟨r, hr⟩ : ∃ r, decide (tokV pa xs sa = tokV pb ys sb) = r := ⟨_, rfl⟩
  have hr2 : (decide ((pa : Int) = (pb : Int)) && (decide (xs = ys) && decide ((sa : Int) = (sb : Int)))) = r := by
    rw [← hr, Bool.eq_iff_iff]
    simp only [Bool.and_eq_true, decide_eq_true_eq, tokV_inj hsa2 hsb2]
    exact ⟨fun ⟨h1, h2, h3⟩ => ⟨by omega, h2, by omega⟩, fun ⟨h1, h2, h3⟩ => ⟨by omega, h2, by omega⟩⟩
  have HR := Lib.hid hr
  have HR2 := Lib.hid hr2
  have hrr : (r != r) = false := by cases r <;> rfl
  have HSS : Hid (∀ w', Below w3.heap.size w3 w' → Calls Try.prog 22 #[TokA pa sa A na ca, TokA pb sb B nb cb] w' (ValEnd w' (.bool r))) := Lib.hid (fun w' hbl =>
    same7_any w' w.heap.size w.heap.size A B na ca nb cb xs ys (pa : Int) (pb : Int) (sa : Int) (sb : Int) r HR2 (HA3.out.below (hbl.mono hz3)) (HC3.out.below (hbl.mono hz3)) (Nat.le_trans hz3 hbl.size) (Nat.le_trans hz3 hbl.size))
  have HSB : Hid (Calls Try.prog 19 #[.slice P (na + 16) pc, .slice Q (nb + 16) qc] w3.drew (SameEnd w3.drew r)) := Lib.hid (same_any w3.drew w2.heap.size w3.heap.size P Q (na + 16) pc (nb + 16) qc _ _ r HR.out (HP3.out.drew) (HQ3.out.drew))
  clear hr hr2
  go_wp2_with fail
  go_region_held3 (fun w' => w'.cell? ⟨w.heap.size, 0, none⟩ = some (.int .i64 (pa : Int)) ∧ w'.cell? ⟨w.heap.size, 1, none⟩ = some (.slice A na ca) ∧ w'.cell? ⟨w.heap.size, 2, none⟩ = some (.int .i64 (sa : Int)) ∧ w'.cell? ⟨w.heap.size + 1, 0, none⟩ = some (.int .i64 (pb : Int)) ∧ w'.cell? ⟨w.heap.size + 1, 1, none⟩ = some (.slice B nb cb) ∧ w'.cell? ⟨w.heap.size + 1, 2, none⟩ = some (.int .i64 (sb : Int))) (go_keep)
    (first
      | ((with_reducible refine HSB.out.mono ?_); rintro e w4 ⟨rfl, t, rfl⟩)
      | ((with_reducible refine (HSS.out _ (below_drewN (Below.refl w3.heap.size w3) (1 + t))).mono ?_); rintro e w5 ⟨rfl, hb⟩; have KA5 := Lib.hid ((KA3.out.drewN (1 + t)).below hb); have KB5 := Lib.hid ((KB3.out.drewN (1 + t)).below hb); have d0 := KA5.out.cell 0 _ rfl; have d1 := KA5.out.cell 1 _ rfl; have d2 := KA5.out.cell 2 _ rfl; have d3 := KB5.out.cell 0 _ rfl; have d4 := KB5.out.cell 1 _ rfl; have d5 := KB5.out.cell 2 _ rfl; have Hb5 := Lib.hid hb; clear hb))
  have hb := Hb5.out
  have HB5 := Lib.hid ((below_drewN HB3.out (1 + t)).trans (hb.mono hz3))
  have HP5 := Lib.hid ((HP3.out.drewN (1 + t)).below (hb.mono hz23))
  have HM5 := Lib.hid ((HM3.out.drewN (1 + t)).below (hb.mono hz3))
  have hz35 := hb.size
  have hz35' : w3.heap.size ≤ w5.heap.size := hz35
  clear hb Hb5 hz35
  have hz5 := HB5.out.size
  have hpl := HP5.out.le
  have hpc := HP5.out.cap
  unfold maxLen at hpc
  clear a0 a1 a2 e0 e1 e2 za zb d0 d1 d2 d3 d4 d5 KA5 KB5 HA3 HC3 HM3 HP3 HQ3 HB3 HR HR2
  obtain ⟨q, hq⟩ : ∃ q, q = ct % (na + 16) := ⟨_, rfl⟩
  have hq1 : q < na + 16 := by rw [hq]; exact Nat.mod_lt _ (by omega)
  have hq2 : (ct : Int) % ((na : Int) + 16) = (q : Int) := by rw [hq]; push_cast; rfl
  have hnz : ((na : Int) + 16 == 0) = false := by simp; omega
  clear hq
  have hcn : ¬ decOk ((tokV pa xs sa).take q) := cut_none (by rw [HLA.out]; exact hq1)
  have HD1 := Lib.hid (decode_bad w5 _ P q pc _ (HP5.out.take (k := q) (by omega)) (Nat.le_trans (by omega) (Nat.le_refl w5.heap.size)) (by omega) hcn)
  clear hcn
  go_wp2_with fail
  with_reducible refine HD1.out.mono ?_
  rintro e w6 ⟨rfl, hb⟩
  have bt := (Below.refl w6.heap.size w6).alloc (Nat.le_refl _) (.cells #[.int .i64 0, .slice none 0 0, .int .i64 0] 24)
  have hsz6 := hb.size
  have HB6 := Lib.hid ((HB5.out.trans (hb.mono hz5)).trans (bt.mono (by omega)))
  have HP6 := Lib.hid ((HP5.out.below (hb.mono (by omega))).below (bt.mono (by omega)))
  have HM6 := Lib.hid ((HM5.out.below (hb.mono hz5)).below (bt.mono (by omega)))
  clear hb bt HB5 HP5 HM5 HD1 hq2
  rcases Nat.eq_zero_or_pos m with h0 | h0
  · have hm0 : ((m : Int) == 0) = true := by simp [h0]
    clear h0
    go_wp2
    go_ret
    exact ⟨rfl, HB6.out⟩
  · have hm0 : ((m : Int) == 0) = false := by simp; omega
    have be := (Below.refl (w6.heap.size + 1) (w6.alloc (.cells #[.int .i64 0, .slice none 0 0, .int .i64 0] 24))).alloc (by simp) (.cells #[] 5)
    have ho7 := OwnB.lit (w6.alloc (.cells #[.int .i64 0, .slice none 0 0, .int .i64 0] 24)) [] (by simp) (n := 0) rfl (by unfold maxLen; omega)
    simp only [World.size_alloc] at ho7
    have HO7 : Hid (OwnB ((w6.alloc (.cells #[.int .i64 0, .slice none 0 0, .int .i64 0] 24)).alloc (.cells #[] 5)) (w6.heap.size + 1) (some ⟨w6.heap.size + 1, 0, none⟩) 0 0 []) := Lib.hid ho7
    have HB7 := Lib.hid (HB6.out.trans (be.mono (by omega)))
    have HP7 := Lib.hid (HP6.out.below (be.mono (by omega)))
    have HM7 := Lib.hid (HM6.out.below (be.mono (by omega)))
    clear be ho7 HB6 HP6 HM6
    go_wp2_with (refine wpList_append_bytes rfl (.tmp 75) (.tmp 76) rfl (w6.heap.size + 1) (some ⟨w6.heap.size + 1, 0, none⟩) 0 0 [] rfl HO7.out _ P (na + 16) pc (tokV pa xs sa) rfl HP7.out (by omega) (by simp) ?_)
    intro A8 c8 w8 ho8 hb8
    have HO8 : Hid (OwnB w8 (w6.heap.size + 1) A8 (na + 16) c8 (tokV pa xs sa)) := Lib.hid (by simpa using ho8)
    have HB8 := Lib.hid (HB7.out.trans (hb8.mono (by omega)))
    have HM8 := Lib.hid (HM7.out.below (hb8.mono (by omega)))
    have hz8 := hb8.size
    simp only [World.size_alloc] at hz8
    clear ho8 hb8 HB7 HM7 HP7 HO7
    go_wp2_with (refine wpList_append_bytes rfl (.tmp 77) (.tmp 78) rfl (w6.heap.size + 1) A8 (na + 16) c8 (tokV pa xs sa) rfl HO8.out w.heap.size M m mc ms rfl HM8.out (by omega) (by omega) ?_)
    intro A9 c9 w9 ho9 hb9
    have HO9 := Lib.hid ho9.arg
    have HB9 := Lib.hid (HB8.out.trans (hb9.mono (by omega)))
    have hz9 := HB9.out.size
    clear ho9 hb9 HB8 HM8 HO8
    rcases Nat.lt_or_ge 4096 (na + 16 + m) with h4 | h4
    · have hd1 : decide ((4096 : Int) < (na : Int) + 16 + (m : Int)) = true := decide_eq_true (by omega)
      have HD2 := Lib.hid (decode_long w9 A9 (na + 16 + m) c9 h4)
      go_wp2_with fail
      with_reducible refine HD2.out.mono ?_
      rintro e w10 ⟨rfl, hb⟩
      have HB10 := Lib.hid (((HB9.out.trans (hb.mono hz9)).alloc (Nat.le_trans hz9 hb.size) (.cells #[.int .i64 0, .slice none 0 0, .int .i64 0] 24)))
      clear hb HD2
      go_wp2
      go_ret
      exact ⟨rfl, HB10.out⟩
    · have HD2 := Lib.hid (decode_bad w9 _ A9 (na + 16 + m) c9 _ HO9.out (Nat.le_refl _) h4 (more_none (by rw [HLM.out]; exact h0)))
      go_wp2_with fail
      with_reducible refine HD2.out.mono ?_
      rintro e w10 ⟨rfl, hb⟩
      have HB10 := Lib.hid (((HB9.out.trans (hb.mono hz9)).alloc (Nat.le_trans hz9 hb.size) (.cells #[.int .i64 0, .slice none 0 0, .int .i64 0] 24)))
      clear hb HD2
      go_wp2
      go_ret
      exact ⟨rfl, HB10.out⟩

theorem tokenOne_walk (pa : Int) (A : Option Addr) (na ca : Nat) (xs : List Nat) (sa : Int) (pb : Int) (B : Option Addr) (nb cb : Nat) (ys : List Nat) (sb : Int) (cut : Int) (M : Option Addr) (m mc : Nat) (ms : List Nat) (w : World)
    (ha : Arg w w.heap.size A na ca xs) (hca : ca ≤ 140737488351232) (hb : Arg w w.heap.size B nb cb ys) (hcb : cb ≤ 140737488351232) (wc : (Lit.int .u8 cut).wf = true) (hm : Arg w w.heap.size M m mc ms) (hmc : mc ≤ 140737488351232) :
    Calls Try.prog 6 #[TokA pa sa A na ca, TokA pb sb B nb cb, .int .u8 cut, .slice M m mc] w (ValEnd w (.bool true)) := by
  have hcut := bounds_u8 wc
  rcases enc_cases pa sa A na ca with ⟨era, ra, ra2, HEA⟩ | ⟨p, s, rfl, rfl, h1, h2, h3, h4⟩
  · rcases enc_cases pb sb B nb cb with ⟨erb, rb, rb2, HEB⟩ | ⟨p', s', rfl, rfl, g1, g2, g3, g4⟩
    · exact tokenOne_ee pa sa pb sb A B na ca nb cb xs ys cut M m mc ms w era erb ra ra2 rb rb2 HEA HEB
    · exact tokenOne_eg pa sa _ _ A B na ca nb cb xs ys cut M m mc ms w era ra ra2 HEA (Lib.hid fun w' hbl => encode_good w' _ p' s' B nb cb ys (hb.below hbl) hbl.size g1 g2 g3 g4)
  · rcases enc_cases pb sb B nb cb with ⟨erb, rb, rb2, HEB⟩ | ⟨p', s', rfl, rfl, g1, g2, g3, g4⟩
    · exact tokenOne_ge _ _ pb sb A B na ca nb cb xs ys cut M m mc ms w erb rb rb2 (Lib.hid fun w' hbl => encode_good w' _ p s A na ca xs (ha.below hbl) hbl.size h1 h2 h3 h4) HEB
    · exact tokenOne_gg p s p' s' A B na ca nb cb xs ys cut M m mc ms w ha hb hm h1 h2 h3 h4 g1 g2 g3 g4 (by omega) (by omega) hmc

end Go.Proofs.Ytlkkldegbopnpaa
