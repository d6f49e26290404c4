/- The law MeterOfs: the document's Of; the walk. -/
import Derived.Test.YtffibfnagoagcaaMetP
import Derived.Test.YtffibfnagoagcaaMetE
import Derived.Deep.QuietTactic
import Derived.BigQuiet
import Derived.Outline
namespace Go.Proofs.Ytffibfnagoagcaa
open Go.RowKit
set_option maxRecDepth 100000
set_option linter.unusedVariables false

set_option maxHeartbeats 1600000 in
theorem ofD_any (w : World) (A : Option Addr) (n c : Nat) (xs : List Nat) (h : ArgF w w.heap.size A n c xs) (hn : n ≤ 4096) :
    Calls Try.prog 24 #[.slice A n c] w fun e w' => ∃ m : MV, e = .returned (.tuple #[m.val, .int .i64 0]) ∧ m.Ok ∧ m.can = addAll newM.can xs ∧ Below w.heap.size w w' := by
  have HN := newD_any
  have HA := Lib.hid h
  have hle := h.le
  have hcap := h.cap
  unfold maxLen at hcap
  have hlen := Lib.hid h.len
  clear h
  have kst : ∀ (a : Addr) (x : Nat) (w : World), (store a (.float .f64 x)).run Try.prog w = stored Try.prog w a (.float .f64 x) .plain := fun a x w => run_store _ _ _ _ _ rfl
  have hng : ¬ (4096 : Int) < (n : Int) := by omega
  go_enter Try.func24, Try.ntmps24
  go_wp2_with fail
  with_reducible refine (HN _).mono ?_
  rintro e w1 ⟨rfl, hb⟩
  simp only [MV.val]
  have K0 := (BlkL.new w (MV.cells ⟨0, 0, 0, 0, 0, 0, 0, 0⟩) 31).below hb
  have hz0 := hb.size
  have HB1 := Lib.hid (((Below.refl w.heap.size w).alloc (Nat.le_refl _) _).trans (hb.mono (by simp)))
  have HK0 := Lib.hid K0
  clear hb K0
  have KM := (BlkL.new w1 newM.cells 31)
  have HKM := Lib.hid KM
  clear KM
  go_wp2
  go_loopw [14] (fun iv wr => OfInv w w1.heap.size n xs iv wr) (fun iv _ => n - (intOf iv).toNat)
  case atStart => exact ⟨0, newM, Nat.zero_le _, rfl, newM_ok, rfl, by decide, by decide, by decide, by decide, HKM.out, HK0.out.alloc _, HB1.out.alloc HB1.out.size _⟩
  case round =>
    obtain ⟨i, m, hi, rfl, ok, hcn, n0, n1, b0, b1, K, K0, hb⟩ := hrel
    have HBr := Lib.hid hb
    have HK0r := Lib.hid K0
    rcases Nat.lt_or_ge i n with h1 | h1
    · have hAk := HA.out.below hb
      obtain ⟨bb, off, rfl, hB, hcell⟩ := hAk.at_ (by omega)
      have q := hcell i h1
      have hil : i < xs.length := by rw [hlen.out]; exact h1
      have hx : xs.getD i 0 ≤ 18446744073709551615 := HA.out.fit _ (by rw [List.getD_eq_getElem?_getD, List.getElem?_eq_getElem hil]; exact List.getElem_mem hil)
      have htk := addAll_take (c := newM.can) hil
      rw [← hcn] at htk
      have HAD := fun w' => addD_any w' m (xs.getD i 0) ok hx (by omega) (by omega) (by omega) (by omega)
      have hnb := addC_n m.can (canB (xs.getD i 0))
      generalize xs.getD i 0 = x at q hx HAD htk hnb
      obtain ⟨mn, mb, su, lo, lw, hh, me, sp⟩ := m
      have HTK := Lib.hid htk
      have HNB := Lib.hid hnb
      simp only [MV.val, MV.cells] at K HAD n0 n1 b0 b1
      have HKr := Lib.hid K
      have c0 := K.cell 0 _ rfl
      have c1 := K.cell 1 _ rfl
      have c2 := K.cell 2 _ rfl
      have c3 := K.cell 3 _ rfl
      have c4 := K.cell 4 _ rfl
      have c5 := K.cell 5 _ rfl
      have c6 := K.cell 6 _ rfl
      have c7 := K.cell 7 _ rfl
      have zl := K.lt
      have ij : (i : Int) < (n : Int) := by omega
      have ij2 : ¬ n ≤ i := by omega
      clear hAk hcell htk hnb hcn ok K K0 hb
      go_wp2_with fail
      with_reducible refine (HAD _).mono ?_
      rintro e w2 ⟨m2, rfl, ok2, hc2, hb2⟩
      obtain ⟨mn2, mb2, su2, lo2, lw2, hh2, me2, sp2⟩ := m2
      simp only [MV.val]
      have K2 := HKr.out.below hb2
      have K02 := HK0r.out.below hb2
      have HB2 := Lib.hid (HBr.out.trans (hb2.mono HBr.out.size))
      have HK2 := Lib.hid K2
      have HK02 := Lib.hid K02
      have HC2 := Lib.hid hc2
      have OK2 := Lib.hid ok2
      clear c0 c1 c2 c3 c4 c5 c6 c7 zl hb2 hc2 ok2 q
      have d0 := K2.cell 0 _ rfl
      have d1 := K2.cell 1 _ rfl
      have d2 := K2.cell 2 _ rfl
      have d3 := K2.cell 3 _ rfl
      have d4 := K2.cell 4 _ rfl
      have d5 := K2.cell 5 _ rfl
      have d6 := K2.cell 6 _ rfl
      have d7 := K2.cell 7 _ rfl
      have f0 := K2.froz 0 (by simp)
      have f1 := K2.froz 1 (by simp)
      have f2 := K2.froz 2 (by simp)
      have f3 := K2.froz 3 (by simp)
      have f4 := K2.froz 4 (by simp)
      have f5 := K2.froz 5 (by simp)
      have f6 := K2.froz 6 (by simp)
      have f7 := K2.froz 7 (by simp)
      have zl := K2.lt
      have z0 := HK0.out.lt
      clear K2 K02
      go_wp2
      have e1 : mn2 = mn ∨ mn2 = mn + 1 := HNB.out.1.elim (fun q => .inl ((congrArg MV.n HC2.out).trans q)) (fun q => .inr ((congrArg MV.n HC2.out).trans q))
      have e2 : mb2 = mb ∨ mb2 = mb + 1 := HNB.out.2.elim (fun q => .inl ((congrArg MV.bad HC2.out).trans q)) (fun q => .inr ((congrArg MV.bad HC2.out).trans q))
      exact ⟨⟨i + 1, ⟨mn2, mb2, su2, lo2, lw2, hh2, me2, sp2⟩, by omega, by go_num, OK2.out, HC2.out.trans HTK.out.symm, by show 0 ≤ mn2; omega, by show mn2 ≤ _; omega, by show 0 ≤ mb2; omega, by show mb2 ≤ _; omega, HK2.out.put8 _ _ _ _ _ _ _ _, HK02.out.other8 (by omega) _ _ _ _ _ _ _ _, below_put8 HB2.out (by have := HB1.out.size; omega) _ _ _ _ _ _ _ _⟩, by simp [intOf]; omega⟩
    · obtain rfl : i = n := by omega
      have hall : m.can = addAll newM.can xs := by rw [hcn, List.take_of_length_le (by rw [hlen.out]; exact Nat.le_refl _)]
      have HALL := Lib.hid hall
      have HOK := Lib.hid ok
      have jn : ¬ (i : Int) < (i : Int) := by omega
      clear hall ok hcn
      obtain ⟨mn, mb, su, lo, lw, hh, me, sp⟩ := m
      simp only [MV.cells] at K
      have K0 : BlkL wr w.heap.size [.int .i64 0, .int .i64 0, .float .f64 0, .float .f64 0, .float .f64 0, .float .f64 0, .float .f64 0, .float .f64 0] := K0
      have c0 := K.cell 0 _ rfl
      have c1 := K.cell 1 _ rfl
      have c2 := K.cell 2 _ rfl
      have c3 := K.cell 3 _ rfl
      have c4 := K.cell 4 _ rfl
      have c5 := K.cell 5 _ rfl
      have c6 := K.cell 6 _ rfl
      have c7 := K.cell 7 _ rfl
      have d0 := K0.cell 0 _ rfl
      have d1 := K0.cell 1 _ rfl
      have d2 := K0.cell 2 _ rfl
      have d3 := K0.cell 3 _ rfl
      have d4 := K0.cell 4 _ rfl
      have d5 := K0.cell 5 _ rfl
      have d6 := K0.cell 6 _ rfl
      have d7 := K0.cell 7 _ rfl
      have f0 := K0.froz 0 (by simp)
      have f1 := K0.froz 1 (by simp)
      have f2 := K0.froz 2 (by simp)
      have f3 := K0.froz 3 (by simp)
      have f4 := K0.froz 4 (by simp)
      have f5 := K0.froz 5 (by simp)
      have f6 := K0.froz 6 (by simp)
      have f7 := K0.froz 7 (by simp)
      have zl := K.lt
      have z0 := K0.lt
      have KR := K0.put8 (.int .i64 mn) (.int .i64 mb) (.float .f64 su) (.float .f64 lo) (.float .f64 lw) (.float .f64 hh) (.float .f64 me) (.float .f64 sp)
      have BR := below_put8 HBr.out (Nat.le_refl _) (.int .i64 mn) (.int .i64 mb) (.float .f64 su) (.float .f64 lo) (.float .f64 lw) (.float .f64 hh) (.float .f64 me) (.float .f64 sp)
      clear K K0 hb
      go_wp2
      generalize ((((((((wr.setCell ⟨w.heap.size, 0, none⟩ (.int .i64 mn)).setCell ⟨w.heap.size, 1, none⟩ (.int .i64 mb)).setCell ⟨w.heap.size, 2, none⟩ (.float .f64 su)).setCell ⟨w.heap.size, 3, none⟩ (.float .f64 lo)).setCell ⟨w.heap.size, 4, none⟩ (.float .f64 lw)).setCell ⟨w.heap.size, 5, none⟩ (.float .f64 hh)).setCell ⟨w.heap.size, 6, none⟩ (.float .f64 me)).setCell ⟨w.heap.size, 7, none⟩ (.float .f64 sp)) = W at *
      have r0 := KR.cell 0 _ rfl
      have r1 := KR.cell 1 _ rfl
      have r2 := KR.cell 2 _ rfl
      have r3 := KR.cell 3 _ rfl
      have r4 := KR.cell 4 _ rfl
      have r5 := KR.cell 5 _ rfl
      have r6 := KR.cell 6 _ rfl
      have r7 := KR.cell 7 _ rfl
      refine bodyPost_ret (v := .tuple #[MV.val ⟨mn, mb, su, lo, lw, hh, me, sp⟩, .int .i64 0]) (by simp [results, Try.results24, go_sem, MV.val, r0, r1, r2, r3, r4, r5, r6, r7]) rfl ⟨⟨mn, mb, su, lo, lw, hh, me, sp⟩, rfl, HOK.out, HALL.out, BR⟩
def zeroMV : MV := ⟨0, 0, 0, 0, 0, 0, 0, 0⟩
theorem ofP_long (w : World) (A : Option Addr) (n c : Nat) (h1 : 4096 < n) : Calls Try.prog 23 #[.slice A n c] w fun e w' => e = .returned (.tuple #[zeroMV.val, .int .i64 2]) ∧ Below w.heap.size w w' := by
  have kst : ∀ (a : Addr) (x : Nat) (w : World), (store a (.float .f64 x)).run Try.prog w = stored Try.prog w a (.float .f64 x) .plain := fun a x w => run_store _ _ _ _ _ rfl
  have hng : (4096 : Int) < (n : Int) := by omega
  go_enter Try.func23, Try.ntmps23
  go_wp2
  refine bodyPost_ret (v := .tuple #[zeroMV.val, .int .i64 2]) (by simp [results, Try.results23, go_sem, MV.val, zeroMV]) rfl ⟨rfl, ?_⟩
  exact (Below.refl _ _).alloc (Nat.le_refl _) _
theorem ofD_long (w : World) (A : Option Addr) (n c : Nat) (h1 : 4096 < n) : Calls Try.prog 24 #[.slice A n c] w fun e w' => e = .returned (.tuple #[zeroMV.val, .int .i64 2]) ∧ Below w.heap.size w w' := by
  have kst : ∀ (a : Addr) (x : Nat) (w : World), (store a (.float .f64 x)).run Try.prog w = stored Try.prog w a (.float .f64 x) .plain := fun a x w => run_store _ _ _ _ _ rfl
  have hng : (4096 : Int) < (n : Int) := by omega
  go_enter Try.func24, Try.ntmps24
  go_wp2
  refine bodyPost_ret (v := .tuple #[zeroMV.val, .int .i64 2]) (by simp [results, Try.results24, go_sem, MV.val, zeroMV]) rfl ⟨rfl, ?_⟩
  exact (Below.refl _ _).alloc (Nat.le_refl _) _
def ofC (n : Nat) (xs : List Nat) : MV := if n ≤ 4096 then addAll newM.can xs else zeroMV
def ofE (n : Nat) : Int := if n ≤ 4096 then 0 else 2
theorem zero_can : zeroMV.can = zeroMV := by
  have h : canB 0 = 0 := by decide
  simp only [MV.can, zeroMV, h]
theorem zero_ok : zeroMV.Ok := by constructor <;> decide
def OfEnd (w : World) (n : Nat) (xs : List Nat) (e : Ending) (w' : World) : Prop := ∃ m : MV, e = .returned (.tuple #[m.val, .int .i64 (ofE n)]) ∧ m.Ok ∧ m.can = ofC n xs ∧ Below w.heap.size w w'
theorem ofP_x (w : World) (A : Option Addr) (n c : Nat) (xs : List Nat) (h : ArgF w w.heap.size A n c xs) : Calls Try.prog 23 #[.slice A n c] w (OfEnd w n xs) := by
  unfold OfEnd ofE ofC
  by_cases hn : n ≤ 4096
  · rw [if_pos hn, if_pos hn]
    exact ofP_any w A n c xs h hn
  · rw [if_neg hn, if_neg hn]
    exact (ofP_long w A n c (by omega)).mono fun e w' ⟨h1, h2⟩ => ⟨zeroMV, h1, zero_ok, zero_can, h2⟩
theorem ofD_x (w : World) (A : Option Addr) (n c : Nat) (xs : List Nat) (h : ArgF w w.heap.size A n c xs) : Calls Try.prog 24 #[.slice A n c] w (OfEnd w n xs) := by
  unfold OfEnd ofE ofC
  by_cases hn : n ≤ 4096
  · rw [if_pos hn, if_pos hn]
    exact ofD_any w A n c xs h hn
  · rw [if_neg hn, if_neg hn]
    exact (ofD_long w A n c (by omega)).mono fun e w' ⟨h1, h2⟩ => ⟨zeroMV, h1, zero_ok, zero_can, h2⟩
set_option maxHeartbeats 6400000 in
theorem meterOfs_g (w : World) (A : Option Addr) (n c : Nat) (xs : List Nat) (h : ArgU w w.heap.size A n c xs) (hn : c ≤ 17592186043904)
    (HAW : ∀ w, Calls Try.prog 11 #[] w (ValEnd w (.bool true))) :
    Calls Try.prog 4 #[.slice A n c] w (ValEnd w (.bool true)) := by
  have hle := h.le
  have HA := Lib.hid h
  have HXL := Lib.hid h.len
  have HFT := Lib.hid h.fit
  clear h
  obtain ⟨i0, hi, hz0, hz1, hz2⟩ := info_parts f64_info
  have kst : ∀ (a : Addr) (x : Nat) (w : World), (store a (.float .f64 x)).run Try.prog w = stored Try.prog w a (.float .f64 x) .plain := fun a x w => run_store _ _ _ _ _ rfl
  go_enter Try.func4, Try.ntmps4
  go_wp2_with fail
  refine (HAW _).mono ?_
  rintro e w1 ⟨rfl, hb1⟩
  have HB1 := Lib.hid hb1
  have HL1 := Lib.hid (all_any w1 A n c xs (by
    have := HA.out.below hb1
    exact ⟨this.len, this.le, this.cap, this.fit, fun h0 => by obtain ⟨b, off, e, hb, hc⟩ := this.at_ h0; exact ⟨b, off, e, Nat.lt_of_lt_of_le hb hb1.size, hc⟩⟩) (by omega))
  clear hb1
  go_wp2_with fail
  with_reducible refine HL1.out.mono ?_
  rintro e w2 ⟨A1, c1, rfl, ho1, hb2⟩
  have HB2 := Lib.hid (HB1.out.trans (hb2.mono HB1.out.size))
  have HO1 := Lib.hid ((ho1.mono HB1.out.size).below ((Below.refl w2.heap.size w2).alloc (Nat.le_refl _) (.cells #[.float .f64 4635118810238550016, .float .f64 4635189178982727680] TF64)))
  have KP := Lib.hid (BlkL.new w2 [.float .f64 4635118810238550016, .float .f64 4635189178982727680] TF64)
  have hz2s := HB2.out.size
  clear ho1 hb2 HL1 HB1
  go_wp2_with (refine wpList_append_v Try.underlying43 hi hz0 hz1 hz2 rfl rfl (.tmp 13) (.tmp 14) rfl rfl HO1.out w2.heap.size 2 2 [.float .f64 4635118810238550016, .float .f64 4635189178982727680] rfl rfl KP.out (fun u hu => by
      simp only [List.mem_cons, List.not_mem_nil, or_false] at hu; rcases hu with rfl | rfl <;> rfl) (by omega) (by omega) (by omega) (by simp; omega) ?_)
  intro A3 c3 w3 ho3 hf3 hx3
  have hb3 : Below w.heap.size w w3 := (HB2.out.alloc HB2.out.size _).trans (hf3.below (by simp; omega) (fun y hy => (HO1.out.lt y hy).1))
  have ho3' : OwnV w3 w.heap.size A3 (n + 2) c3 (Fl (xs ++ [4635118810238550016, 4635189178982727680])) := by rw [Fl_append]; exact ho3
  have ho3t := ho3'.to_ (m := n) (by omega)
  have ht : (Fl (xs ++ [4635118810238550016, 4635189178982727680])).take n = Fl xs := by
    rw [Fl_append, List.take_append_of_le_length (by rw [Fl_len, HXL.out]; exact Nat.le_refl _), List.take_of_length_le (by rw [Fl_len, HXL.out]; exact Nat.le_refl _)]
  rw [ht] at ho3t
  have HB3 := Lib.hid hb3
  have HO3 := Lib.hid ho3'
  have HP3 := Lib.hid (ofP_x w3 A3 n c3 xs (ho3t.argF HFT.out))
  have h3le := ho3t.le
  have h3c := ho3'.cap
  unfold maxLen at h3c
  clear ho3 hf3 hx3 hb3 ho3' ho3t ht KP HO1 HB2 hz0 hz1 hz2 hi
  go_wp2_with fail
  with_reducible refine HP3.out.mono ?_
  rintro e w4 ⟨⟨n1, d1, s1, l1, lo1, hi1, me1, sp1⟩, rfl, ok1, can1, hb4⟩
  simp only [MV.val]
  have K1 := BlkL.new w4 [.int .i64 n1, .int .i64 d1, .float .f64 s1, .float .f64 l1, .float .f64 lo1, .float .f64 hi1, .float .f64 me1, .float .f64 sp1] 29
  have hb4' : Below w3.heap.size w3 (w4.alloc (.cells #[.int .i64 n1, .int .i64 d1, .float .f64 s1, .float .f64 l1, .float .f64 lo1, .float .f64 hi1, .float .f64 me1, .float .f64 sp1] 29)) := hb4.alloc hb4.size _
  have HB4 := Lib.hid (HB3.out.trans (hb4'.mono HB3.out.size))
  have HO4 := Lib.hid (HO3.out.below hb4')
  have HK1 := Lib.hid K1
  have HC1 := Lib.hid (And.intro ok1 can1)
  have ha4 := HA.out.below HB4.out
  have HL4 := Lib.hid (all_any _ A n c xs ⟨ha4.len, ha4.le, ha4.cap, ha4.fit, fun h0 => by obtain ⟨b, off, e, hb, hc⟩ := ha4.at_ h0; exact ⟨b, off, e, Nat.lt_of_lt_of_le hb HB4.out.size, hc⟩⟩ (by omega))
  clear hb4 hb4' ok1 can1 K1 ha4 HP3 HB3 HO3
  go_wp2_with fail
  with_reducible refine HL4.out.mono ?_
  rintro e w5 ⟨A5, c5, rfl, ho5, hb5⟩
  have hf5 := ho5.argF HFT.out
  have HP5 := Lib.hid (ofD_x w5 A5 n c5 xs hf5)
  have HB5 := Lib.hid (HB4.out.trans (hb5.mono HB4.out.size))
  have HO5 := Lib.hid (HO4.out.below hb5)
  have HK5 := Lib.hid (HK1.out.below hb5)
  clear ho5 hf5 hb5 HL4 HB4 HO4 HK1
  go_wp2_with fail
  with_reducible refine HP5.out.mono ?_
  rintro e w6 ⟨⟨n2, d2, s2, l2, lo2, hi2, me2, sp2⟩, rfl, ok2, can2, hb6⟩
  simp only [MV.val]
  have hb6' : Below w5.heap.size w5 (w6.alloc (.cells #[.int .i64 n2, .int .i64 d2, .float .f64 s2, .float .f64 l2, .float .f64 lo2, .float .f64 hi2, .float .f64 me2, .float .f64 sp2] 31)) := hb6.alloc hb6.size _
  have HB6 := Lib.hid (HB5.out.trans (hb6'.mono HB5.out.size))
  have HO6 := Lib.hid (HO5.out.below hb6')
  have HK6 := Lib.hid (HK5.out.below hb6')
  have HK2 := Lib.hid (BlkL.new w6 [.int .i64 n2, .int .i64 d2, .float .f64 s2, .float .f64 l2, .float .f64 lo2, .float .f64 hi2, .float .f64 me2, .float .f64 sp2] 31)
  have hs0 := fun w => same8l_any w _ _ HC1.out.1 ok2 (HC1.out.2.trans can2.symm)
  simp only [MV.val] at hs0
  have HS := Lib.hid hs0
  clear hs0 hb6 hb6' ok2 can2 HC1 HP5 HB5 HO5 HK5
  have o1 : FloatKind.f64.format.order 4635118810238550016 4635118810238550016 = some .eq := by decide +kernel
  have o2 : FloatKind.f64.format.order 4635189178982727680 4635189178982727680 = some .eq := by decide +kernel
  go_wp2_with fail
  generalize w6.alloc _ = W6 at *
  generalize ofE n = er at *
  generalize w4.heap.size = B4 at *
  generalize w6.heap.size = B6 at *

  go_loopw [32] (fun iv wr => ∃ k : Nat, k ≤ n ∧ iv = .int .i64 (k : Int) ∧ Below W6.heap.size W6 wr) (fun iv _ => n - (intOf iv).toNat)
  case atStart => exact ⟨0, Nat.zero_le _, rfl, Below.refl _ _⟩
  case round =>
    obtain ⟨k, hk, rfl, hb⟩ := hrel
    rcases Nat.lt_or_ge k n with h1 | h1
    · have hx := HA.out.below (HB6.out.trans (hb.mono HB6.out.size))
      obtain ⟨bb, off, rfl, hB, hcell⟩ := hx.at_ (by omega)
      have q := hcell k h1
      have hxl : k < xs.length := by have := HXL.out; omega
      have hd0 : xs.getD k 0 = xs[k] := by rw [List.getD_eq_getElem?_getD, List.getElem?_eq_getElem hxl]; rfl
      obtain ⟨b3, o3, rfl, _, _, hc3, _⟩ := (HO6.out.below hb).cell (by omega)
      have q3 := hc3 k (.float .f64 xs[k]) (by rw [Fl_append, List.getElem?_append_left (by rw [Fl_len]; exact hxl)]; simp [Fl, hxl])
      have hfx := HFT.out _ (List.getElem_mem hxl)
      rw [hd0] at q
      generalize xs[k] = x at q q3 hfx
      have HQ1 := Lib.hid (fun t => ((of8_any (wr.drewN t) x).mono (fun e w' ⟨a, b⟩ => ⟨a, b.symm⟩) : Calls Try.prog 17 #[.int .u64 (x : Int)] (wr.drewN t) fun e w' => e = .returned (.float .f64 x) ∧ w' = wr.drewN t))
      have HQ2 := Lib.hid (fun t => ((same_yes (wr.drewN t) x x hfx hfx rfl).mono (fun e w' ⟨a, b⟩ => ⟨a, b.symm⟩) : Calls Try.prog 19 #[.float .f64 x, .float .f64 x] (wr.drewN t) fun e w' => e = .returned (.bool true) ∧ w' = wr.drewN t))
      have ij : (k : Int) < (n : Int) := by omega
      have ij0 : (0 : Int) ≤ (k : Int) := by omega
      have ij2 : (k : Int) < (n : Int) + 2 := by omega
      have ij3 : (k : Int) < ((n + 2 : Nat) : Int) := by omega
      have HBr := Lib.hid hb
      clear hx hcell hc3 hd0 hb
      go_wp2_with fail
      go_quiet (first | (go_at_call 17; with_reducible exact Calls.quiet_of_same (HQ1.out _)) | (go_at_call 19; with_reducible exact Calls.quiet_of_same (HQ2.out _)))
      rename_i nq
      go_wp2
      go_roundw
      case rel => exact ⟨k + 1, by omega, by go_num, below_drewN HBr.out _⟩
      case measure => simp [intOf]; omega
    · obtain rfl : k = n := by omega
      have jn : ¬ (k : Int) < (k : Int) := by omega
      have hk1 := HK6.out.below hb
      have hk2 := HK2.out.below hb
      have a0 := hk1.cell 0 _ rfl
      have a1 := hk1.cell 1 _ rfl
      have a2 := hk1.cell 2 _ rfl
      have a3 := hk1.cell 3 _ rfl
      have a4 := hk1.cell 4 _ rfl
      have a5 := hk1.cell 5 _ rfl
      have a6 := hk1.cell 6 _ rfl
      have a7 := hk1.cell 7 _ rfl
      have b0 := hk2.cell 0 _ rfl
      have b1 := hk2.cell 1 _ rfl
      have b2 := hk2.cell 2 _ rfl
      have b3 := hk2.cell 3 _ rfl
      have b4 := hk2.cell 4 _ rfl
      have b5 := hk2.cell 5 _ rfl
      have b6 := hk2.cell 6 _ rfl
      have b7 := hk2.cell 7 _ rfl
      have HO9 := Lib.hid (HO6.out.below hb)
      have HBr := Lib.hid (HB6.out.trans (hb.mono HB6.out.size))
      clear hk1 hk2 hb
      go_wp2_with fail
      with_reducible refine (HS.out _).mono ?_
      rintro e w9 ⟨rfl, hb9⟩
      obtain ⟨b3', o3, rfl, _, _, hc3, _⟩ := (HO9.out.below hb9).cell (by omega)
      have hl : (Fl xs).length = k := by rw [Fl_len]; exact HXL.out
      have q3 := hc3 k (.float .f64 4635118810238550016) (by rw [Fl_append, List.getElem?_append_right (by omega), hl, Nat.sub_self]; rfl)
      have q4 := hc3 (k + 1) (.float .f64 4635189178982727680) (by rw [Fl_append, List.getElem?_append_right (by omega), hl, Nat.add_sub_cancel_left]; rfl)
      have q5 := q4
      rw [← Nat.add_assoc] at q5
      have ij0 : (0 : Int) ≤ (k : Int) := by omega
      have ij1 : (0 : Int) ≤ (k : Int) + 1 := by omega
      have ij2 : (k : Int) < (k : Int) + 2 := by omega
      have ij3 : (k : Int) < ((k + 2 : Nat) : Int) := by omega
      have ij4 : (k : Int) + 1 < (k : Int) + 2 := by omega
      have ij5 : (k : Int) + 1 < ((k + 2 : Nat) : Int) := by omega
      have tn : ((k : Int) + 1).toNat = k + 1 := by omega
      have HB9 := Lib.hid (HBr.out.trans (hb9.mono HBr.out.size))
      clear hc3 hl hb9 a0 a1 a2 a3 a4 a5 a6 a7 b0 b1 b2 b3 b4 b5 b6 b7
      go_wp2
      go_ret
      exact ⟨by simp, HB9.out⟩
end Go.Proofs.Ytffibfnagoagcaa
