/- The law PermBack: its walk. -/
import Derived.Test.YtpeijhlheencnaaPermA
namespace Go.Proofs.Ytpeijhlheencnaa
open Go.RowKit
set_option maxRecDepth 100000
set_option linter.unusedVariables false

theorem lit1 (w : World) (b : Nat) (x : Int) (hb : b = w.heap.size) : ArgI (w.alloc (.cells #[.int .i64 x] 2)) (w.heap.size + 1) (some ⟨b, 0, none⟩) 1 1 [x] := by subst hb; exact ints_lit6 w [x] 1 rfl (by omega)
theorem lit2 (w : World) (b : Nat) (x y : Int) (hb : b = w.heap.size) : ArgI (w.alloc (.cells #[.int .i64 x, .int .i64 y] 2)) (w.heap.size + 1) (some ⟨b, 0, none⟩) 2 2 [x, y] := by subst hb; exact ints_lit6 w [x, y] 2 rfl (by omega)
theorem own_head {w : World} {B n m c : Nat} {A : Option Addr} {xs ys : List Int} (h : OwnI w B A m c (xs ++ ys)) (hn : xs.length = n) (hm : n ≤ m) : ArgI w w.heap.size A n c xs := by
  have := h.arg.to_ hm
  rwa [List.take_left' hn] at this
theorem take_ok6 {w : World} {B n c m : Nat} {A : Option Addr} {xs ys : List Int} {p t : Int} (h : ArgI w B A n c xs) (hB : B ≤ w.heap.size) (hs : Shp A c) (ht : takeE p xs t = 0) (hy : putV xs t = ys) (hm : n + 1 = m) :
    Calls Try.prog 21 #[.agg #[.int .i64 p, .slice A n c], .int .i64 t] w fun e w' => ∃ A' c', e = .returned (.tuple #[.agg #[.int .i64 p, .slice A' m c'], .int .i64 0]) ∧ OwnI w' w.heap.size A' m c' ys ∧ Below w.heap.size w w' := by
  subst hy hm; exact take_good h hB hs ht
theorem take_err6 {w : World} {B n c : Nat} {A : Option Addr} {xs : List Int} {p t er : Int} (h : ArgI w B A n c xs) (hB : B ≤ w.heap.size) (ht : takeE p xs t = er) (hne : er ≠ 0) :
    Calls Try.prog 21 #[.agg #[.int .i64 p, .slice A n c], .int .i64 t] w (ValEnd w (.tuple #[.agg #[.int .i64 0, .slice none 0 0], .int .i64 er])) := by
  subst ht; exact take_bad h hB hne
theorem give_ok6 {w : World} {B n c m : Nat} {A : Option Addr} {xs ys : List Int} {p t : Int} (h : ArgI w B A n c xs) (hB : B ≤ w.heap.size) (hs : Shp A c) (h3 : semB p xs = true) (h4 : hasV xs t = true) (hy : dropV xs t = ys) (hm : n - 1 = m) :
    Calls Try.prog 19 #[.agg #[.int .i64 p, .slice A n c], .int .i64 t] w fun e w' => ∃ A' c', e = .returned (.tuple #[.agg #[.int .i64 p, .slice A' m c'], .int .i64 0]) ∧ OwnI w' w.heap.size A' m c' ys ∧ Below w.heap.size w w' := by
  subst hy hm; exact give_good h hB hs h3 h4
theorem sameInts_yes (w : World) (B B' : Nat) (A A' : Option Addr) (n c m d : Nat) (xs ys : List Int) (hxy : xs = ys) (h : ArgI w B A n c xs) (h' : ArgI w B' A' m d ys) :
    Calls Try.prog 25 #[.slice A n c, .slice A' m d] w (ValEnd w (.bool true)) := by
  have := sameInts_b w B B' A A' n c m d xs ys h h'
  rw [decide_eq_true hxy] at this
  exact this
theorem same6_yes (w : World) (B B' : Nat) (A A' : Option Addr) (n c m d : Nat) (xs ys : List Int) (p : Int) (hxy : xs = ys) (h : ArgI w B A n c xs) (h' : ArgI w B' A' m d ys) (hB : B ≤ w.heap.size) (hB' : B' ≤ w.heap.size) :
    Calls Try.prog 36 #[.agg #[.int .i64 p, .slice A n c], .agg #[.int .i64 p, .slice A' m d]] w (ValEnd w (.bool true)) := by
  have := same6_any w B B' A A' n c m d xs ys p p h h' hB hB'
  rw [decide_eq_true rfl, decide_eq_true hxy, Bool.true_and] at this
  exact this

set_option maxHeartbeats 1600000 in
theorem awake6_any (w : World) : Calls Try.prog 15 #[] w (ValEnd w (.bool true)) := by
  have t1 : takeE 2 [5] 3 = 0 := by decide
  have t2 : takeE 2 [3, 5] 9 = 9 := by decide
  have t3 : semB 2 [3, 5] = true := by decide
  have t4 : hasV [3, 5] 5 = true := by decide
  have t5 : putV [5] 3 = [3, 5] := by decide
  have t6 : dropV [3, 5] 5 = [3] := by decide
  have T1 := Lib.hid t1
  have T2 := Lib.hid t2
  have T3 := Lib.hid t3
  have T4 := Lib.hid t4
  have T5 := Lib.hid t5
  have T6 := Lib.hid t6
  clear t1 t2 t3 t4 t5 t6
  go_enter Try.func15, Try.ntmps15
  go_wp2_with fail
  with_reducible refine (of6_any _ _ (some ⟨w.heap.size, 0, none⟩) 1 1 [5] 2 (lit1 w _ 5 rfl) (by simp) (by omega)).mono ?_
  rintro e w1 ⟨Aa, ca, rfl, ho, hb⟩
  have HOa1 := Lib.hid ho
  clear ho
  have Ki := (BlkL.new _ [.int .i64 5] 2).below hb
  try simp only [World.size_alloc] at Ki
  have HB1 := Lib.hid (((Below.refl w.heap.size w).alloc (by simp <;> omega) _).trans (hb.mono (by simp <;> omega)))
  clear hb
  have HKi1 := Lib.hid Ki
  clear Ki
  go_wp2_with fail
  with_reducible refine (take_ok6 (m := 2) (t := 3) (own_head (n := 1) (HOa1.out.below ((Below.refl _ _).alloc (Nat.le_refl _) _)) rfl (by omega)) (Nat.le_refl _) HOa1.out.shp T1.out T5.out rfl).mono ?_
  rintro e w2 ⟨Ab, cb, rfl, ho, hb⟩
  have HOa2 := Lib.hid ((HOa1.out.below ((Below.refl _ _).alloc (Nat.le_refl _) _)).below hb)
  have HOb2 := Lib.hid ho
  clear ho
  have Ki := (HKi1.out.alloc _).below hb
  have Ka := (BlkL.new _ [.int .i64 2, .slice Aa 1 ca] 52).below hb
  try simp only [World.size_alloc] at Ka
  have HB2 := Lib.hid ((HB1.out.alloc (by have := HB1.out.size; simp; omega) _).trans (hb.mono (by have := HB1.out.size; simp <;> omega)))
  clear hb
  have HKi2 := Lib.hid Ki
  have HKa2 := Lib.hid Ka
  clear Ki Ka
  go_wp2_with fail
  with_reducible refine (take_err6 (t := 9) (HOb2.out.below ((Below.refl _ _).alloc (Nat.le_refl _) _)).arg (Nat.le_refl _) T2.out (by omega)).mono ?_
  rintro e w3 ⟨rfl, hb⟩
  have HOa3 := Lib.hid ((HOa2.out.below ((Below.refl _ _).alloc (Nat.le_refl _) _)).below hb)
  have HOb3 := Lib.hid ((HOb2.out.below ((Below.refl _ _).alloc (Nat.le_refl _) _)).below hb)
  have Ki := (HKi2.out.alloc _).below hb
  have Ka := (HKa2.out.alloc _).below hb
  have Kb := (BlkL.new _ [.int .i64 2, .slice Ab 2 cb] 52).below hb
  try simp only [World.size_alloc] at Kb
  have HB3 := Lib.hid ((HB2.out.alloc (by have := HB2.out.size; simp; omega) _).trans (hb.mono (by have := HB2.out.size; simp <;> omega)))
  clear hb
  have cb0 := Kb.cell 0 _ rfl
  have cb1 := Kb.cell 1 _ rfl
  have zb := Kb.lt
  have HKi3 := Lib.hid Ki
  have HKa3 := Lib.hid Ka
  have HKb3 := Lib.hid Kb
  clear Ki Ka Kb
  go_wp2_with fail
  with_reducible refine (give_ok6 (m := 1) (t := 5) (HOb3.out.below ((Below.refl _ _).alloc (Nat.le_refl _) _)).arg (Nat.le_refl _) HOb3.out.shp T3.out T4.out T6.out rfl).mono ?_
  rintro e w4 ⟨Ac, cc, rfl, ho, hb⟩
  have HOa4 := Lib.hid ((HOa3.out.below ((Below.refl _ _).alloc (Nat.le_refl _) _)).below hb)
  have HOb4 := Lib.hid ((HOb3.out.below ((Below.refl _ _).alloc (Nat.le_refl _) _)).below hb)
  have HOc4 := Lib.hid ho
  clear ho
  have Ki := (HKi3.out.alloc _).below hb
  have Ka := (HKa3.out.alloc _).below hb
  have Kb := (HKb3.out.alloc _).below hb
  have Kd := (BlkL.new _ [.int .i64 0, .slice none 0 0] 52).below hb
  try simp only [World.size_alloc] at Kd
  have HB4 := Lib.hid ((HB3.out.alloc (by have := HB3.out.size; simp; omega) _).trans (hb.mono (by have := HB3.out.size; simp <;> omega)))
  clear hb cb0 cb1 zb
  have cb0 := Kb.cell 0 _ rfl
  have cb1 := Kb.cell 1 _ rfl
  have zb := Kb.lt
  have HKi4 := Lib.hid Ki
  have HKa4 := Lib.hid Ka
  have HKb4 := Lib.hid Kb
  have HKd4 := Lib.hid Kd
  clear Ki Ka Kb Kd
  go_wp2_with fail
  with_reducible refine (same6_yes _ _ _ Ab (some ⟨w4.heap.size + 1, 0, none⟩) 2 cb 2 2 [3, 5] [3, 5] 2 rfl ((HOb4.out.below ((Below.refl _ _).alloc (Nat.le_refl _) _)).below ((Below.refl _ _).alloc (Nat.le_refl _) _)).arg (lit2 _ _ 3 5 (by simp)) (Nat.le_refl _) (by simp)).mono ?_
  rintro e w5 ⟨rfl, hb⟩
  have HOa5 := Lib.hid (((HOa4.out.below ((Below.refl _ _).alloc (Nat.le_refl _) _)).below ((Below.refl _ _).alloc (Nat.le_refl _) _)).below hb)
  have HOb5 := Lib.hid (((HOb4.out.below ((Below.refl _ _).alloc (Nat.le_refl _) _)).below ((Below.refl _ _).alloc (Nat.le_refl _) _)).below hb)
  have HOc5 := Lib.hid (((HOc4.out.below ((Below.refl _ _).alloc (Nat.le_refl _) _)).below ((Below.refl _ _).alloc (Nat.le_refl _) _)).below hb)
  have Ki := ((HKi4.out.alloc _).alloc _).below hb
  have Ka := ((HKa4.out.alloc _).alloc _).below hb
  have Kb := ((HKb4.out.alloc _).alloc _).below hb
  have Kd := ((HKd4.out.alloc _).alloc _).below hb
  have Kc := ((BlkL.new _ [.int .i64 2, .slice Ac 1 cc] 52).alloc _).below hb
  have Kj := (BlkL.new _ [.int .i64 3, .int .i64 5] 2).below hb
  try simp only [World.size_alloc] at Kc Kj
  have HB5 := Lib.hid (((HB4.out.alloc (by have := HB4.out.size; simp; omega) _).alloc (by have := HB4.out.size; simp; omega) _).trans (hb.mono (by have := HB4.out.size; simp <;> omega)))
  clear hb cb0 cb1 zb
  have cb0 := Kb.cell 0 _ rfl
  have cb1 := Kb.cell 1 _ rfl
  have zb := Kb.lt
  have cc0 := Kc.cell 0 _ rfl
  have cc1 := Kc.cell 1 _ rfl
  have zc := Kc.lt
  have HKi5 := Lib.hid Ki
  have HKa5 := Lib.hid Ka
  have HKb5 := Lib.hid Kb
  have HKd5 := Lib.hid Kd
  have HKc5 := Lib.hid Kc
  have HKj5 := Lib.hid Kj
  clear Ki Ka Kb Kd Kc Kj
  go_wp2_with fail
  with_reducible refine (same6_yes _ _ _ Ac (some ⟨w5.heap.size, 0, none⟩) 1 cc 1 1 [3] [3] 2 rfl (HOc5.out.below ((Below.refl _ _).alloc (Nat.le_refl _) _)).arg (lit1 _ _ 3 rfl) (Nat.le_refl _) (by simp)).mono ?_
  rintro e w6 ⟨rfl, hb⟩
  have HOa6 := Lib.hid ((HOa5.out.below ((Below.refl _ _).alloc (Nat.le_refl _) _)).below hb)
  have HOb6 := Lib.hid ((HOb5.out.below ((Below.refl _ _).alloc (Nat.le_refl _) _)).below hb)
  have HOc6 := Lib.hid ((HOc5.out.below ((Below.refl _ _).alloc (Nat.le_refl _) _)).below hb)
  have Ki := (HKi5.out.alloc _).below hb
  have Ka := (HKa5.out.alloc _).below hb
  have Kb := (HKb5.out.alloc _).below hb
  have Kd := (HKd5.out.alloc _).below hb
  have Kc := (HKc5.out.alloc _).below hb
  have Kj := (HKj5.out.alloc _).below hb
  have Km := (BlkL.new _ [.int .i64 3] 2).below hb
  try simp only [World.size_alloc] at Km
  have HB6 := Lib.hid ((HB5.out.alloc (by have := HB5.out.size; simp; omega) _).trans (hb.mono (by have := HB5.out.size; simp <;> omega)))
  clear hb cb0 cb1 zb cc0 cc1 zc
  have HKi6 := Lib.hid Ki
  have HKa6 := Lib.hid Ka
  have HKb6 := Lib.hid Kb
  have HKd6 := Lib.hid Kd
  have HKc6 := Lib.hid Kc
  have HKj6 := Lib.hid Kj
  have HKm6 := Lib.hid Km
  clear Ki Ka Kb Kd Kc Kj Km
  go_wp2
  go_ret
  exact ⟨rfl, HB6.out⟩

end Go.Proofs.Ytpeijhlheencnaa
