/- Contract: meter.Of, of a list that isn't too long. -/
import Derived.Test.YtffibfnagoagcaaMetC
import Derived.Test.YtffibfnagoagcaaMetT
import Derived.IntWalk
namespace Go.Proofs.Ytffibfnagoagcaa
open Go.RowKit
set_option maxRecDepth 100000
set_option linter.unusedVariables false

/-- The slice value .slice A n c reads as the floats xs, below block B. -/
structure ArgF (w : World) (B : Nat) (A : Option Addr) (n c : Nat) (xs : List Nat) : Prop where
  len : xs.length = n
  le : n ≤ c
  cap : c ≤ maxLen
  fit : ∀ x ∈ xs, x ≤ 18446744073709551615
  at_ : 0 < n → ∃ b off, A = some ⟨b, off, none⟩ ∧ b < B ∧ ∀ j, j < n → w.cell? ⟨b, off + j, none⟩ = some (.float .f64 (xs.getD j 0))
theorem ArgF.below {w w' : World} {B n c : Nat} {A : Option Addr} {xs : List Nat} (h : ArgF w B A n c xs) (hb : Below B w w') : ArgF w' B A n c xs :=
  ⟨h.len, h.le, h.cap, h.fit, fun hn => by
    obtain ⟨b, off, e, hB, hc⟩ := h.at_ hn
    exact ⟨b, off, e, hB, fun j hj => (hb.cell (p := ⟨b, off + j, none⟩) hB).trans (hc j hj)⟩⟩
def MV.cells (m : MV) : List Value := [.int .i64 m.n, .int .i64 m.bad, .float .f64 m.sum, .float .f64 m.lost, .float .f64 m.low, .float .f64 m.high, .float .f64 m.mean, .float .f64 m.spr]
def addAll (c : MV) (xs : List Nat) : MV := xs.foldl (fun c x => addC c (canB x)) c
theorem addAll_take {c : MV} {xs : List Nat} {i : Nat} (h : i < xs.length) : addAll c (xs.take (i + 1)) = addC (addAll c (xs.take i)) (canB (xs.getD i 0)) := by
  unfold addAll
  rw [List.take_succ_eq_append_getElem h, List.foldl_append, List.getD_eq_getElem?_getD, List.getElem?_eq_getElem h]
  rfl
theorem addC_n (c : MV) (x : Nat) : ((addC c x).n = c.n ∨ (addC c x).n = c.n + 1) ∧ ((addC c x).bad = c.bad ∨ (addC c x).bad = c.bad + 1) := by
  unfold addC
  split
  · exact ⟨.inl rfl, .inr rfl⟩
  · exact ⟨.inr rfl, .inl rfl⟩
theorem BlkL.put8 {w : World} {b : Nat} {x0 x1 x2 x3 x4 x5 x6 x7 : Value} (h : BlkL w b [x0, x1, x2, x3, x4, x5, x6, x7]) (v0 v1 v2 v3 v4 v5 v6 v7 : Value) :
    BlkL ((((((((w.setCell ⟨b, 0, none⟩ v0).setCell ⟨b, 1, none⟩ v1).setCell ⟨b, 2, none⟩ v2).setCell ⟨b, 3, none⟩ v3).setCell ⟨b, 4, none⟩ v4).setCell ⟨b, 5, none⟩ v5).setCell ⟨b, 6, none⟩ v6).setCell ⟨b, 7, none⟩ v7) b [v0, v1, v2, v3, v4, v5, v6, v7] := by
  have := (((((((h.set 0 v0 (by simp)).set 1 v1 (by simp)).set 2 v2 (by simp)).set 3 v3 (by simp)).set 4 v4 (by simp)).set 5 v5 (by simp)).set 6 v6 (by simp)).set 7 v7 (by simp)
  simpa only [List.set_cons_zero, List.set_cons_succ] using this
theorem BlkL.other8 {w : World} {b b' : Nat} {xs : List Value} (h : BlkL w b xs) (hne : b' ≠ b) (v0 v1 v2 v3 v4 v5 v6 v7 : Value) :
    BlkL ((((((((w.setCell ⟨b', 0, none⟩ v0).setCell ⟨b', 1, none⟩ v1).setCell ⟨b', 2, none⟩ v2).setCell ⟨b', 3, none⟩ v3).setCell ⟨b', 4, none⟩ v4).setCell ⟨b', 5, none⟩ v5).setCell ⟨b', 6, none⟩ v6).setCell ⟨b', 7, none⟩ v7) b xs :=
  (((((((h.other b' 0 v0 hne).other b' 1 v1 hne).other b' 2 v2 hne).other b' 3 v3 hne).other b' 4 v4 hne).other b' 5 v5 hne).other b' 6 v6 hne).other b' 7 v7 hne
theorem below_put8 {B : Nat} {a w : World} (h : Below B a w) {b : Nat} (hb : B ≤ b) (v0 v1 v2 v3 v4 v5 v6 v7 : Value) :
    Below B a ((((((((w.setCell ⟨b, 0, none⟩ v0).setCell ⟨b, 1, none⟩ v1).setCell ⟨b, 2, none⟩ v2).setCell ⟨b, 3, none⟩ v3).setCell ⟨b, 4, none⟩ v4).setCell ⟨b, 5, none⟩ v5).setCell ⟨b, 6, none⟩ v6).setCell ⟨b, 7, none⟩ v7) :=
  (((((((h.setCell (p := ⟨b, 0, none⟩) hb v0).setCell (p := ⟨b, 1, none⟩) hb v1).setCell (p := ⟨b, 2, none⟩) hb v2).setCell (p := ⟨b, 3, none⟩) hb v3).setCell (p := ⟨b, 4, none⟩) hb v4).setCell (p := ⟨b, 5, none⟩) hb v5).setCell (p := ⟨b, 6, none⟩) hb v6).setCell (p := ⟨b, 7, none⟩) hb v7
def OfInv (w : World) (b0 : Nat) (n : Nat) (xs : List Nat) (iv : Value) (wr : World) : Prop :=
  ∃ (i : Nat) (m : MV), i ≤ n ∧ iv = .int .i64 (i : Int) ∧ m.Ok ∧ m.can = addAll newM.can (xs.take i) ∧ 0 ≤ m.n ∧ m.n ≤ i ∧ 0 ≤ m.bad ∧ m.bad ≤ i ∧ BlkL wr b0 m.cells ∧ BlkL wr w.heap.size (MV.cells ⟨0, 0, 0, 0, 0, 0, 0, 0⟩) ∧ Below w.heap.size w wr

set_option maxHeartbeats 1600000 in
theorem ofP_any (w : World) (A : Option Addr) (n c : Nat) (xs : List Nat) (h : ArgF w w.heap.size A n c xs) (hn : n ≤ 4096) :
    Calls Try.prog 23 #[.slice A n c] w fun e w' => ∃ m : MV, e = .returned (.tuple #[m.val, .int .i64 0]) ∧ m.Ok ∧ m.can = addAll newM.can xs ∧ Below w.heap.size w w' := by
  have HN := newP_any
  have HA := Lib.hid h
  have hle := h.le
  have hcap := h.cap
  unfold maxLen at hcap
  have hlen := Lib.hid h.len
  clear h
  have kst : ∀ (a : Addr) (x : Nat) (w : World), (store a (.float .f64 x)).run Try.prog w = stored Try.prog w a (.float .f64 x) .plain := fun a x w => run_store _ _ _ _ _ rfl
  have hng : ¬ (4096 : Int) < (n : Int) := by omega
  go_enter Try.func23, Try.ntmps23
  go_wp2_with fail
  with_reducible refine (HN _).mono ?_
  rintro e w1 ⟨rfl, hb⟩
  simp only [MV.val]
  have K0 := (BlkL.new w (MV.cells ⟨0, 0, 0, 0, 0, 0, 0, 0⟩) 29).below hb
  have hz0 := hb.size
  have HB1 := Lib.hid (((Below.refl w.heap.size w).alloc (Nat.le_refl _) _).trans (hb.mono (by simp)))
  have HK0 := Lib.hid K0
  clear hb K0
  have KM := (BlkL.new w1 newM.cells 29)
  have HKM := Lib.hid KM
  clear KM
  go_wp2
  go_loopw [14] (fun iv wr => OfInv w w1.heap.size n xs iv wr) (fun iv _ => n - (intOf iv).toNat)
  case atStart => exact ⟨0, newM, Nat.zero_le _, rfl, newM_ok, rfl, by decide, by decide, by decide, by decide, HKM.out, HK0.out.alloc _, HB1.out.alloc HB1.out.size _⟩
  case round =>
    obtain ⟨i, m, hi, rfl, ok, hcn, n0, n1, b0, b1, K, K0, hb⟩ := hrel
    have HBr := Lib.hid hb
    have HK0r := Lib.hid K0
    rcases Nat.lt_or_ge i n with h1 | h1
    · have hAk := HA.out.below hb
      obtain ⟨bb, off, rfl, hB, hcell⟩ := hAk.at_ (by omega)
      have q := hcell i h1
      have hil : i < xs.length := by rw [hlen.out]; exact h1
      have hx : xs.getD i 0 ≤ 18446744073709551615 := HA.out.fit _ (by rw [List.getD_eq_getElem?_getD, List.getElem?_eq_getElem hil]; exact List.getElem_mem hil)
      have htk := addAll_take (c := newM.can) hil
      rw [← hcn] at htk
      have HAD := fun w' => addP_any w' m (xs.getD i 0) ok hx (by omega) (by omega) (by omega) (by omega)
      have hnb := addC_n m.can (canB (xs.getD i 0))
      generalize xs.getD i 0 = x at q hx HAD htk hnb
      obtain ⟨mn, mb, su, lo, lw, hh, me, sp⟩ := m
      have HTK := Lib.hid htk
      have HNB := Lib.hid hnb
      simp only [MV.val, MV.cells] at K HAD n0 n1 b0 b1
      have HKr := Lib.hid K
      have c0 := K.cell 0 _ rfl
      have c1 := K.cell 1 _ rfl
      have c2 := K.cell 2 _ rfl
      have c3 := K.cell 3 _ rfl
      have c4 := K.cell 4 _ rfl
      have c5 := K.cell 5 _ rfl
      have c6 := K.cell 6 _ rfl
      have c7 := K.cell 7 _ rfl
      have zl := K.lt
      have ij : (i : Int) < (n : Int) := by omega
      have ij2 : ¬ n ≤ i := by omega
      clear hAk hcell htk hnb hcn ok K K0 hb
      go_wp2_with fail
      with_reducible refine (HAD _).mono ?_
      rintro e w2 ⟨m2, rfl, ok2, hc2, hb2⟩
      obtain ⟨mn2, mb2, su2, lo2, lw2, hh2, me2, sp2⟩ := m2
      simp only [MV.val]
      have K2 := HKr.out.below hb2
      have K02 := HK0r.out.below hb2
      have HB2 := Lib.hid (HBr.out.trans (hb2.mono HBr.out.size))
      have HK2 := Lib.hid K2
      have HK02 := Lib.hid K02
      have HC2 := Lib.hid hc2
      have OK2 := Lib.hid ok2
      clear c0 c1 c2 c3 c4 c5 c6 c7 zl hb2 hc2 ok2 q
      have d0 := K2.cell 0 _ rfl
      have d1 := K2.cell 1 _ rfl
      have d2 := K2.cell 2 _ rfl
      have d3 := K2.cell 3 _ rfl
      have d4 := K2.cell 4 _ rfl
      have d5 := K2.cell 5 _ rfl
      have d6 := K2.cell 6 _ rfl
      have d7 := K2.cell 7 _ rfl
      have f0 := K2.froz 0 (by simp)
      have f1 := K2.froz 1 (by simp)
      have f2 := K2.froz 2 (by simp)
      have f3 := K2.froz 3 (by simp)
      have f4 := K2.froz 4 (by simp)
      have f5 := K2.froz 5 (by simp)
      have f6 := K2.froz 6 (by simp)
      have f7 := K2.froz 7 (by simp)
      have zl := K2.lt
      have z0 := HK0.out.lt
      clear K2 K02
      go_wp2
      have e1 : mn2 = mn ∨ mn2 = mn + 1 := HNB.out.1.elim (fun q => .inl ((congrArg MV.n HC2.out).trans q)) (fun q => .inr ((congrArg MV.n HC2.out).trans q))
      have e2 : mb2 = mb ∨ mb2 = mb + 1 := HNB.out.2.elim (fun q => .inl ((congrArg MV.bad HC2.out).trans q)) (fun q => .inr ((congrArg MV.bad HC2.out).trans q))
      exact ⟨⟨i + 1, ⟨mn2, mb2, su2, lo2, lw2, hh2, me2, sp2⟩, by omega, by go_num, OK2.out, HC2.out.trans HTK.out.symm, by show 0 ≤ mn2; omega, by show mn2 ≤ _; omega, by show 0 ≤ mb2; omega, by show mb2 ≤ _; omega, HK2.out.put8 _ _ _ _ _ _ _ _, HK02.out.other8 (by omega) _ _ _ _ _ _ _ _, below_put8 HB2.out (by have := HB1.out.size; omega) _ _ _ _ _ _ _ _⟩, by simp [intOf]; omega⟩
    · obtain rfl : i = n := by omega
      have hall : m.can = addAll newM.can xs := by rw [hcn, List.take_of_length_le (by rw [hlen.out]; exact Nat.le_refl _)]
      have HALL := Lib.hid hall
      have HOK := Lib.hid ok
      have jn : ¬ (i : Int) < (i : Int) := by omega
      clear hall ok hcn
      obtain ⟨mn, mb, su, lo, lw, hh, me, sp⟩ := m
      simp only [MV.cells] at K
      have K0 : BlkL wr w.heap.size [.int .i64 0, .int .i64 0, .float .f64 0, .float .f64 0, .float .f64 0, .float .f64 0, .float .f64 0, .float .f64 0] := K0
      have c0 := K.cell 0 _ rfl
      have c1 := K.cell 1 _ rfl
      have c2 := K.cell 2 _ rfl
      have c3 := K.cell 3 _ rfl
      have c4 := K.cell 4 _ rfl
      have c5 := K.cell 5 _ rfl
      have c6 := K.cell 6 _ rfl
      have c7 := K.cell 7 _ rfl
      have d0 := K0.cell 0 _ rfl
      have d1 := K0.cell 1 _ rfl
      have d2 := K0.cell 2 _ rfl
      have d3 := K0.cell 3 _ rfl
      have d4 := K0.cell 4 _ rfl
      have d5 := K0.cell 5 _ rfl
      have d6 := K0.cell 6 _ rfl
      have d7 := K0.cell 7 _ rfl
      have f0 := K0.froz 0 (by simp)
      have f1 := K0.froz 1 (by simp)
      have f2 := K0.froz 2 (by simp)
      have f3 := K0.froz 3 (by simp)
      have f4 := K0.froz 4 (by simp)
      have f5 := K0.froz 5 (by simp)
      have f6 := K0.froz 6 (by simp)
      have f7 := K0.froz 7 (by simp)
      have zl := K.lt
      have z0 := K0.lt
      have KR := K0.put8 (.int .i64 mn) (.int .i64 mb) (.float .f64 su) (.float .f64 lo) (.float .f64 lw) (.float .f64 hh) (.float .f64 me) (.float .f64 sp)
      have BR := below_put8 HBr.out (Nat.le_refl _) (.int .i64 mn) (.int .i64 mb) (.float .f64 su) (.float .f64 lo) (.float .f64 lw) (.float .f64 hh) (.float .f64 me) (.float .f64 sp)
      clear K K0 hb
      go_wp2
      generalize ((((((((wr.setCell ⟨w.heap.size, 0, none⟩ (.int .i64 mn)).setCell ⟨w.heap.size, 1, none⟩ (.int .i64 mb)).setCell ⟨w.heap.size, 2, none⟩ (.float .f64 su)).setCell ⟨w.heap.size, 3, none⟩ (.float .f64 lo)).setCell ⟨w.heap.size, 4, none⟩ (.float .f64 lw)).setCell ⟨w.heap.size, 5, none⟩ (.float .f64 hh)).setCell ⟨w.heap.size, 6, none⟩ (.float .f64 me)).setCell ⟨w.heap.size, 7, none⟩ (.float .f64 sp)) = W at *
      have r0 := KR.cell 0 _ rfl
      have r1 := KR.cell 1 _ rfl
      have r2 := KR.cell 2 _ rfl
      have r3 := KR.cell 3 _ rfl
      have r4 := KR.cell 4 _ rfl
      have r5 := KR.cell 5 _ rfl
      have r6 := KR.cell 6 _ rfl
      have r7 := KR.cell 7 _ rfl
      refine bodyPost_ret (v := .tuple #[MV.val ⟨mn, mb, su, lo, lw, hh, me, sp⟩, .int .i64 0]) (by simp [results, Try.results23, go_sem, MV.val, r0, r1, r2, r3, r4, r5, r6, r7]) rfl ⟨⟨mn, mb, su, lo, lw, hh, me, sp⟩, rfl, HOK.out, HALL.out, BR⟩
end Go.Proofs.Ytffibfnagoagcaa
