/- Contract: Decode of the program, behind parts. -/
import Derived.Test.YtndgladfcogiiaaTokH
namespace Go.Proofs.Ytndgladfcogiiaa
open Go.RowKit
set_option maxRecDepth 100000
set_option linter.unusedVariables false

/-- How parts ends that says yes. -/
def PartsEnd (w : World) (p : Nat) (S : Int) (ks : List Nat) (n : Nat) (e : Ending) (w' : World) : Prop :=
  ∃ A c, e = .returned (.tuple #[TokA p S A n c, .bool true]) ∧ OwnB w' w.heap.size A n c ks ∧ Below w.heap.size w w'

set_option maxHeartbeats 1600000 in
theorem decode_fault (w : World) (B : Nat) (A : Option Addr) (n c p : Nat) (S : Int) (ks zs : List Nat) (h : Arg w B A (n + 16) c zs) (hB : B ≤ w.heap.size) (hn : n ≤ 255)
    (HP : Hid (∀ w', Below w.heap.size w w' → Calls Try.prog 74 #[.slice A (n + 16) c] w' (PartsEnd w' p S ks n)))
    (HE : Hid (∀ w A1 c1, Calls Try.prog 21 #[TokA p S A1 n c1] w (ValEnd w (.tuple #[.slice none 0 0, .int .i64 1])))) :
    Calls Try.prog 25 #[.slice A (n + 16) c] w (ValEnd w (.tuple #[Tok0, .int .i64 3])) := by
  have B0 := Lib.hid ((Below.refl w.heap.size w).alloc (Nat.le_refl _) (.cells #[.int .i64 0, .slice none 0 0, .int .i64 0] 24))
  have HZ := Lib.hid (h.more hB)
  clear h
  go_enter Try.func25, Try.ntmps25
  go_wp2_with fail
  with_reducible refine (HP.out _ B0.out).mono ?_
  rintro e w1 ⟨A1, c1, rfl, ho, hb⟩
  simp only [World.size_alloc] at ho hb
  have hz := hb.size
  simp only [World.size_alloc] at hz
  have kr := ((BlkL.new w [.int .i64 0, .slice none 0 0, .int .i64 0] 24).keep hb (by omega)).alloc (.cells (tokB p S A1 n c1).toArray 24)
  have kt := BlkL.new w1 (tokB p S A1 n c1) 24
  have hb1 := (B0.out.trans (hb.mono (by omega))).alloc (by omega) (.cells (tokB p S A1 n c1).toArray 24)
  have ha1 := (ho.below ((Below.refl _ w1).alloc (Nat.le_refl _) (.cells (tokB p S A1 n c1).toArray 24)))
  have hz1 := HZ.out.below hb1
  have HO1 := Lib.hid ha1
  have HB1 := Lib.hid hb1
  have HZ1 := Lib.hid hz1
  have KR := Lib.hid kr
  have KT := Lib.hid kt
  clear kr kt hb1 ha1 hz1 ho hb
  go_wp2_with fail
  with_reducible refine (HE.out _ A1 c1).mono ?_
  rintro e w2 ⟨rfl, hb2⟩
  have HB2 := Lib.hid (HB1.out.trans (hb2.mono (by simp; omega)))
  have KR2 := Lib.hid (KR.out.below hb2)
  have KT2 := Lib.hid (KT.out.below hb2)
  clear KR KT HB1 hb2
  have kr := KR2.out
  have kt := KT2.out
  have bz := kr.put3 (.int .i64 0) (.slice none 0 0) (.int .i64 0)
  have hbz := below_put3 HB2.out (b := w.heap.size) (Nat.le_refl _) (.int .i64 0) (.slice none 0 0) (.int .i64 0)
  have y0 := bz.cell 0 _ rfl
  have y1 := bz.cell 1 _ rfl
  have y2 := bz.cell 2 _ rfl
  have f0 := kr.froz 0 (by simp)
  have f1 := kr.froz 1 (by simp)
  have f2 := kr.froz 2 (by simp)
  have x0 := kr.cell 0 _ rfl
  have x1 := kr.cell 1 _ rfl
  have x2 := kr.cell 2 _ rfl
  have t0 := kt.cell 0 _ rfl
  have t1 := kt.cell 1 _ rfl
  have t2 := kt.cell 2 _ rfl
  have zt := kt.lt
  have zr := kr.lt
  clear kr bz kt
  go_wp2
  exact bodyPost_ret (v := .tuple #[.agg #[.int .i64 0, .slice none 0 0, .int .i64 0], .int .i64 3]) (by simp [results, Try.results25, go_sem, y0, y1, y2]) rfl ⟨rfl, hbz⟩

set_option maxHeartbeats 1600000 in
theorem decode_other (w : World) (B : Nat) (A : Option Addr) (n c p : Nat) (S : Int) (ks zs : List Nat) (h : Arg w B A (n + 16) c zs) (hB : B ≤ w.heap.size) (hn : n ≤ 255)
    (HP : Hid (∀ w', Below w.heap.size w w' → Calls Try.prog 74 #[.slice A (n + 16) c] w' (PartsEnd w' p S ks n)))
    (s : Nat) (hS : S = (s : Int)) (hp : p < 32) (hs1 : 1 ≤ s) (hs2 : s ≤ 4611686018427387903) (HE : Hid (decide (tokV p ks s = zs) = false)) :
    Calls Try.prog 25 #[.slice A (n + 16) c] w (ValEnd w (.tuple #[Tok0, .int .i64 3])) := by
  subst hS
  have B0 := Lib.hid ((Below.refl w.heap.size w).alloc (Nat.le_refl _) (.cells #[.int .i64 0, .slice none 0 0, .int .i64 0] 24))
  have HZ := Lib.hid (h.more hB)
  clear h
  go_enter Try.func25, Try.ntmps25
  go_wp2_with fail
  with_reducible refine (HP.out _ B0.out).mono ?_
  rintro e w1 ⟨A1, c1, rfl, ho, hb⟩
  simp only [World.size_alloc] at ho hb
  have hz := hb.size
  simp only [World.size_alloc] at hz
  have kr := ((BlkL.new w [.int .i64 0, .slice none 0 0, .int .i64 0] 24).keep hb (by omega)).alloc (.cells (tokB p s A1 n c1).toArray 24)
  have kt := BlkL.new w1 (tokB p s A1 n c1) 24
  have hb1 := (B0.out.trans (hb.mono (by omega))).alloc (by omega) (.cells (tokB p s A1 n c1).toArray 24)
  have ha1 := (ho.below ((Below.refl _ w1).alloc (Nat.le_refl _) (.cells (tokB p s A1 n c1).toArray 24)))
  have hz1 := HZ.out.below hb1
  have HO1 := Lib.hid ha1
  have HB1 := Lib.hid hb1
  have HZ1 := Lib.hid hz1
  have KR := Lib.hid kr
  have KT := Lib.hid kt
  clear kr kt hb1 ha1 hz1 ho hb
  go_wp2_with fail
  with_reducible refine (encode_good _ _ p s A1 n c1 ks HO1.out.arg (Nat.le_refl _) hp hs1 hs2 hn).mono ?_
  rintro e w2 ⟨A2, c2, rfl, ho2, hb2⟩
  simp only [World.size_alloc] at ho2 hb2
  have hb2' := HB1.out.trans (hb2.mono (by omega))
  have hz2 := hb2'.size
  have HB2 := Lib.hid hb2'
  have KR2 := Lib.hid (KR.out.keep hb2 (by omega))
  have KT2 := Lib.hid (KT.out.keep hb2 (by omega))
  have HA2 := Lib.hid ho2.arg
  have HZ2 := Lib.hid (HZ1.out.keep hb2 (by omega))
  have HO2 := Lib.hid (HO1.out.below (by simpa using hb2))
  clear KR KT HB1 HZ1 HO1 ho2 hb2 hb2'
  go_wp2_with fail
  with_reducible refine (equal_any _ w2.heap.size w.heap.size A2 A (n + 16) c2 (n + 16) c _ zs false HE.out HA2.out HZ2.out (by omega) (by omega)).mono ?_
  rintro e w3 ⟨rfl, rfl⟩
  have kr := KR2.out
  have kt := KT2.out
  have bz := kr.put3 (.int .i64 0) (.slice none 0 0) (.int .i64 0)
  have hbz := below_put3 HB2.out (b := w.heap.size) (Nat.le_refl _) (.int .i64 0) (.slice none 0 0) (.int .i64 0)
  have y0 := bz.cell 0 _ rfl
  have y1 := bz.cell 1 _ rfl
  have y2 := bz.cell 2 _ rfl
  have f0 := kr.froz 0 (by simp)
  have f1 := kr.froz 1 (by simp)
  have f2 := kr.froz 2 (by simp)
  have x0 := kr.cell 0 _ rfl
  have x1 := kr.cell 1 _ rfl
  have x2 := kr.cell 2 _ rfl
  have t0 := kt.cell 0 _ rfl
  have t1 := kt.cell 1 _ rfl
  have t2 := kt.cell 2 _ rfl
  have zt := kt.lt
  have zr := kr.lt
  clear kr bz kt
  go_wp2
  exact bodyPost_ret (v := .tuple #[.agg #[.int .i64 0, .slice none 0 0, .int .i64 0], .int .i64 3]) (by simp [results, Try.results25, go_sem, y0, y1, y2]) rfl ⟨rfl, hbz⟩

set_option maxHeartbeats 1600000 in
theorem decode_same (w : World) (B : Nat) (A : Option Addr) (n c p : Nat) (S : Int) (ks zs : List Nat) (h : Arg w B A (n + 16) c zs) (hB : B ≤ w.heap.size) (hn : n ≤ 255)
    (HP : Hid (∀ w', Below w.heap.size w w' → Calls Try.prog 74 #[.slice A (n + 16) c] w' (PartsEnd w' p S ks n)))
    (s : Nat) (hS : S = (s : Int)) (hp : p < 32) (hs1 : 1 ≤ s) (hs2 : s ≤ 4611686018427387903) (HE : Hid (decide (tokV p ks s = zs) = true)) :
    Calls Try.prog 25 #[.slice A (n + 16) c] w (TokEnd w p s ks n) := by
  subst hS
  have B0 := Lib.hid ((Below.refl w.heap.size w).alloc (Nat.le_refl _) (.cells #[.int .i64 0, .slice none 0 0, .int .i64 0] 24))
  have HZ := Lib.hid (h.more hB)
  clear h
  go_enter Try.func25, Try.ntmps25
  go_wp2_with fail
  with_reducible refine (HP.out _ B0.out).mono ?_
  rintro e w1 ⟨A1, c1, rfl, ho, hb⟩
  simp only [World.size_alloc] at ho hb
  have hz := hb.size
  simp only [World.size_alloc] at hz
  have kr := ((BlkL.new w [.int .i64 0, .slice none 0 0, .int .i64 0] 24).keep hb (by omega)).alloc (.cells (tokB p s A1 n c1).toArray 24)
  have kt := BlkL.new w1 (tokB p s A1 n c1) 24
  have hb1 := (B0.out.trans (hb.mono (by omega))).alloc (by omega) (.cells (tokB p s A1 n c1).toArray 24)
  have ha1 := (ho.below ((Below.refl _ w1).alloc (Nat.le_refl _) (.cells (tokB p s A1 n c1).toArray 24)))
  have hz1 := HZ.out.below hb1
  have HO1 := Lib.hid ha1
  have HB1 := Lib.hid hb1
  have HZ1 := Lib.hid hz1
  have KR := Lib.hid kr
  have KT := Lib.hid kt
  clear kr kt hb1 ha1 hz1 ho hb
  go_wp2_with fail
  with_reducible refine (encode_good _ _ p s A1 n c1 ks HO1.out.arg (Nat.le_refl _) hp hs1 hs2 hn).mono ?_
  rintro e w2 ⟨A2, c2, rfl, ho2, hb2⟩
  simp only [World.size_alloc] at ho2 hb2
  have hb2' := HB1.out.trans (hb2.mono (by omega))
  have hz2 := hb2'.size
  have HB2 := Lib.hid hb2'
  have KR2 := Lib.hid (KR.out.keep hb2 (by omega))
  have KT2 := Lib.hid (KT.out.keep hb2 (by omega))
  have HA2 := Lib.hid ho2.arg
  have HZ2 := Lib.hid (HZ1.out.keep hb2 (by omega))
  have HO2 := Lib.hid (HO1.out.below (by simpa using hb2))
  clear KR KT HB1 HZ1 HO1 ho2 hb2 hb2'
  go_wp2_with fail
  with_reducible refine (equal_any _ w2.heap.size w.heap.size A2 A (n + 16) c2 (n + 16) c _ zs true HE.out HA2.out HZ2.out (by omega) (by omega)).mono ?_
  rintro e w3 ⟨rfl, rfl⟩
  have hoz := ((HO2.out.other (b := w.heap.size) (i := 0) (v := .int .i64 (p : Int)) (by omega)).other (b := w.heap.size) (i := 1) (v := .slice A1 n c1) (by omega)).other (b := w.heap.size) (i := 2) (v := .int .i64 (s : Int)) (by omega)
  have kr := KR2.out
  have kt := KT2.out
  have bz := kr.put3 (.int .i64 (p : Int)) (.slice A1 n c1) (.int .i64 (s : Int))
  have hbz := below_put3 HB2.out (b := w.heap.size) (Nat.le_refl _) (.int .i64 (p : Int)) (.slice A1 n c1) (.int .i64 (s : Int))
  have y0 := bz.cell 0 _ rfl
  have y1 := bz.cell 1 _ rfl
  have y2 := bz.cell 2 _ rfl
  have f0 := kr.froz 0 (by simp)
  have f1 := kr.froz 1 (by simp)
  have f2 := kr.froz 2 (by simp)
  have x0 := kr.cell 0 _ rfl
  have x1 := kr.cell 1 _ rfl
  have x2 := kr.cell 2 _ rfl
  have t0 := kt.cell 0 _ rfl
  have t1 := kt.cell 1 _ rfl
  have t2 := kt.cell 2 _ rfl
  have zt := kt.lt
  have zr := kr.lt
  clear kr bz kt
  go_wp2
  exact bodyPost_ret (v := .tuple #[.agg #[.int .i64 (p : Int), .slice A1 n c1, .int .i64 (s : Int)], .int .i64 0]) (by simp [results, Try.results25, go_sem, y0, y1, y2]) rfl ⟨A1, c1, rfl, hoz.mono (by omega), hbz⟩

end Go.Proofs.Ytndgladfcogiiaa
