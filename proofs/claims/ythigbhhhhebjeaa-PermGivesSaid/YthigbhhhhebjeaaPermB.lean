/- The law PermBack: its walk. -/
import Derived.Test.YthigbhhhhebjeaaPermA
namespace Go.Proofs.Ythigbhhhhebjeaa
open Go.RowKit
set_option maxRecDepth 100000
set_option linter.unusedVariables false

theorem lit1 (w : World) (b : Nat) (x : Int) (hb : b = w.heap.size) : ArgI (w.alloc (.cells #[.int .i64 x] 2)) (w.heap.size + 1) (some ⟨b, 0, none⟩) 1 1 [x] := by subst hb; exact ints_lit6 w [x] 1 rfl (by omega)
theorem lit2 (w : World) (b : Nat) (x y : Int) (hb : b = w.heap.size) : ArgI (w.alloc (.cells #[.int .i64 x, .int .i64 y] 2)) (w.heap.size + 1) (some ⟨b, 0, none⟩) 2 2 [x, y] := by subst hb; exact ints_lit6 w [x, y] 2 rfl (by omega)
theorem own_head {w : World} {B n m c : Nat} {A : Option Addr} {xs ys : List Int} (h : OwnI w B A m c (xs ++ ys)) (hn : xs.length = n) (hm : n ≤ m) : ArgI w w.heap.size A n c xs := by
  have := h.arg.to_ hm
  rwa [List.take_left' hn] at this
theorem take_ok6 {w : World} {B n c m : Nat} {A : Option Addr} {xs ys : List Int} {p t : Int} (h : ArgI w B A n c xs) (hB : B ≤ w.heap.size) (hs : Shp A c) (ht : takeE p xs t = 0) (hy : putV xs t = ys) (hm : n + 1 = m) :
    Calls Try.prog 33 #[.agg #[.int .i64 p, .slice A n c], .int .i64 t] w fun e w' => ∃ A' c', e = .returned (.tuple #[.agg #[.int .i64 p, .slice A' m c'], .int .i64 0]) ∧ OwnI w' w.heap.size A' m c' ys ∧ Below w.heap.size w w' := by
  subst hy hm; exact take_good h hB hs ht
theorem take_err6 {w : World} {B n c : Nat} {A : Option Addr} {xs : List Int} {p t er : Int} (h : ArgI w B A n c xs) (hB : B ≤ w.heap.size) (ht : takeE p xs t = er) (hne : er ≠ 0) :
    Calls Try.prog 33 #[.agg #[.int .i64 p, .slice A n c], .int .i64 t] w (ValEnd w (.tuple #[.agg #[.int .i64 0, .slice none 0 0], .int .i64 er])) := by
  subst ht; exact take_bad h hB hne
theorem give_ok6 {w : World} {B n c m : Nat} {A : Option Addr} {xs ys : List Int} {p t : Int} (h : ArgI w B A n c xs) (hB : B ≤ w.heap.size) (hs : Shp A c) (h3 : semB p xs = true) (h4 : hasV xs t = true) (hy : dropV xs t = ys) (hm : n - 1 = m) :
    Calls Try.prog 40 #[.agg #[.int .i64 p, .slice A n c], .int .i64 t] w fun e w' => ∃ A' c', e = .returned (.tuple #[.agg #[.int .i64 p, .slice A' m c'], .int .i64 0]) ∧ OwnI w' w.heap.size A' m c' ys ∧ Below w.heap.size w w' := by
  subst hy hm; exact give_good h hB hs h3 h4
theorem sameInts_yes (w : World) (B B' : Nat) (A A' : Option Addr) (n c m d : Nat) (xs ys : List Int) (hxy : xs = ys) (h : ArgI w B A n c xs) (h' : ArgI w B' A' m d ys) :
    Calls Try.prog 49 #[.slice A n c, .slice A' m d] w (ValEnd w (.bool true)) := by
  have := sameInts_b w B B' A A' n c m d xs ys h h'
  rw [decide_eq_true hxy] at this
  exact this
theorem same6_yes (w : World) (B B' : Nat) (A A' : Option Addr) (n c m d : Nat) (xs ys : List Int) (p : Int) (hxy : xs = ys) (h : ArgI w B A n c xs) (h' : ArgI w B' A' m d ys) (hB : B ≤ w.heap.size) (hB' : B' ≤ w.heap.size) :
    Calls Try.prog 38 #[.agg #[.int .i64 p, .slice A n c], .agg #[.int .i64 p, .slice A' m d]] w (ValEnd w (.bool true)) := by
  have := same6_any w B B' A A' n c m d xs ys p p h h' hB hB'
  rw [decide_eq_true rfl, decide_eq_true hxy, Bool.true_and] at this
  exact this

set_option maxHeartbeats 1600000 in
theorem awake6_any (w : World) : Calls Try.prog 37 #[] w (ValEnd w (.bool true)) := by
  have t1 : takeE 2 [5] 3 = 0 := by decide
  have t2 : takeE 2 [3, 5] 9 = 9 := by decide
  have t3 : semB 2 [3, 5] = true := by decide
  have t4 : hasV [3, 5] 5 = true := by decide
  have t5 : putV [5] 3 = [3, 5] := by decide
  have t6 : dropV [3, 5] 5 = [3] := by decide
  have T1 := Lib.hid t1
  have T2 := Lib.hid t2
  have T3 := Lib.hid t3
  have T4 := Lib.hid t4
  have T5 := Lib.hid t5
  have T6 := Lib.hid t6
  clear t1 t2 t3 t4 t5 t6
  go_enter Try.func37, Try.ntmps37
  go_wp2_with fail
  with_reducible refine (of6_any _ _ (some ⟨w.heap.size, 0, none⟩) 1 1 [5] 2 (lit1 w _ 5 rfl) (by simp) (by omega)).mono ?_
  rintro e w1 ⟨Aa, ca, rfl, ho, hb⟩
  have HOa1 := Lib.hid ho
  clear ho
  have Ki := (BlkL.new _ [.int .i64 5] 2).below hb
  try simp only [World.size_alloc] at Ki
  have HB1 := Lib.hid (((Below.refl w.heap.size w).alloc (by simp <;> omega) _).trans (hb.mono (by simp <;> omega)))
  clear hb
  have HKi1 := Lib.hid Ki
  clear Ki
  go_wp2_with fail
  with_reducible refine (take_ok6 (m := 2) (t := 3) (own_head (n := 1) (HOa1.out.below ((Below.refl _ _).alloc (Nat.le_refl _) _)) rfl (by omega)) (Nat.le_refl _) HOa1.out.shp T1.out T5.out rfl).mono ?_
  rintro e w2 ⟨Ab, cb, rfl, ho, hb⟩
  have HOa2 := Lib.hid ((HOa1.out.below ((Below.refl _ _).alloc (Nat.le_refl _) _)).below hb)
  have HOb2 := Lib.hid ho
  clear ho
  have Ki := (HKi1.out.alloc _).below hb
  have Ka := (BlkL.new _ [.int .i64 2, .slice Aa 1 ca] 74).below hb
  try simp only [World.size_alloc] at Ka
  have HB2 := Lib.hid ((HB1.out.alloc (by have := HB1.out.size; simp; omega) _).trans (hb.mono (by have := HB1.out.size; simp <;> omega)))
  clear hb
  have HKi2 := Lib.hid Ki
  have HKa2 := Lib.hid Ka
  clear Ki Ka
  go_wp2_with fail
  with_reducible refine (take_err6 (t := 9) (HOb2.out.below ((Below.refl _ _).alloc (Nat.le_refl _) _)).arg (Nat.le_refl _) T2.out (by omega)).mono ?_
  rintro e w3 ⟨rfl, hb⟩
  have HOa3 := Lib.hid ((HOa2.out.below ((Below.refl _ _).alloc (Nat.le_refl _) _)).below hb)
  have HOb3 := Lib.hid ((HOb2.out.below ((Below.refl _ _).alloc (Nat.le_refl _) _)).below hb)
  have Ki := (HKi2.out.alloc _).below hb
  have Ka := (HKa2.out.alloc _).below hb
  have Kb := (BlkL.new _ [.int .i64 2, .slice Ab 2 cb] 74).below hb
  try simp only [World.size_alloc] at Kb
  have HB3 := Lib.hid ((HB2.out.alloc (by have := HB2.out.size; simp; omega) _).trans (hb.mono (by have := HB2.out.size; simp <;> omega)))
  clear hb
  have cb0 := Kb.cell 0 _ rfl
  have cb1 := Kb.cell 1 _ rfl
  have zb := Kb.lt
  have HKi3 := Lib.hid Ki
  have HKa3 := Lib.hid Ka
  have HKb3 := Lib.hid Kb
  clear Ki Ka Kb
  go_wp2_with fail
  with_reducible refine (give_ok6 (m := 1) (t := 5) (HOb3.out.below ((Below.refl _ _).alloc (Nat.le_refl _) _)).arg (Nat.le_refl _) HOb3.out.shp T3.out T4.out T6.out rfl).mono ?_
  rintro e w4 ⟨Ac, cc, rfl, ho, hb⟩
  have HOa4 := Lib.hid ((HOa3.out.below ((Below.refl _ _).alloc (Nat.le_refl _) _)).below hb)
  have HOb4 := Lib.hid ((HOb3.out.below ((Below.refl _ _).alloc (Nat.le_refl _) _)).below hb)
  have HOc4 := Lib.hid ho
  clear ho
  have Ki := (HKi3.out.alloc _).below hb
  have Ka := (HKa3.out.alloc _).below hb
  have Kb := (HKb3.out.alloc _).below hb
  have Kd := (BlkL.new _ [.int .i64 0, .slice none 0 0] 74).below hb
  try simp only [World.size_alloc] at Kd
  have HB4 := Lib.hid ((HB3.out.alloc (by have := HB3.out.size; simp; omega) _).trans (hb.mono (by have := HB3.out.size; simp <;> omega)))
  clear hb cb0 cb1 zb
  have cb0 := Kb.cell 0 _ rfl
  have cb1 := Kb.cell 1 _ rfl
  have zb := Kb.lt
  have HKi4 := Lib.hid Ki
  have HKa4 := Lib.hid Ka
  have HKb4 := Lib.hid Kb
  have HKd4 := Lib.hid Kd
  clear Ki Ka Kb Kd
  go_wp2_with fail
  with_reducible refine (same6_yes _ _ _ Ab (some ⟨w4.heap.size + 1, 0, none⟩) 2 cb 2 2 [3, 5] [3, 5] 2 rfl ((HOb4.out.below ((Below.refl _ _).alloc (Nat.le_refl _) _)).below ((Below.refl _ _).alloc (Nat.le_refl _) _)).arg (lit2 _ _ 3 5 (by simp)) (Nat.le_refl _) (by simp)).mono ?_
  rintro e w5 ⟨rfl, hb⟩
  have HOa5 := Lib.hid (((HOa4.out.below ((Below.refl _ _).alloc (Nat.le_refl _) _)).below ((Below.refl _ _).alloc (Nat.le_refl _) _)).below hb)
  have HOb5 := Lib.hid (((HOb4.out.below ((Below.refl _ _).alloc (Nat.le_refl _) _)).below ((Below.refl _ _).alloc (Nat.le_refl _) _)).below hb)
  have HOc5 := Lib.hid (((HOc4.out.below ((Below.refl _ _).alloc (Nat.le_refl _) _)).below ((Below.refl _ _).alloc (Nat.le_refl _) _)).below hb)
  have Ki := ((HKi4.out.alloc _).alloc _).below hb
  have Ka := ((HKa4.out.alloc _).alloc _).below hb
  have Kb := ((HKb4.out.alloc _).alloc _).below hb
  have Kd := ((HKd4.out.alloc _).alloc _).below hb
  have Kc := ((BlkL.new _ [.int .i64 2, .slice Ac 1 cc] 74).alloc _).below hb
  have Kj := (BlkL.new _ [.int .i64 3, .int .i64 5] 2).below hb
  try simp only [World.size_alloc] at Kc Kj
  have HB5 := Lib.hid (((HB4.out.alloc (by have := HB4.out.size; simp; omega) _).alloc (by have := HB4.out.size; simp; omega) _).trans (hb.mono (by have := HB4.out.size; simp <;> omega)))
  clear hb cb0 cb1 zb
  have cb0 := Kb.cell 0 _ rfl
  have cb1 := Kb.cell 1 _ rfl
  have zb := Kb.lt
  have cc0 := Kc.cell 0 _ rfl
  have cc1 := Kc.cell 1 _ rfl
  have zc := Kc.lt
  have HKi5 := Lib.hid Ki
  have HKa5 := Lib.hid Ka
  have HKb5 := Lib.hid Kb
  have HKd5 := Lib.hid Kd
  have HKc5 := Lib.hid Kc
  have HKj5 := Lib.hid Kj
  clear Ki Ka Kb Kd Kc Kj
  go_wp2_with fail
  with_reducible refine (same6_yes _ _ _ Ac (some ⟨w5.heap.size, 0, none⟩) 1 cc 1 1 [3] [3] 2 rfl (HOc5.out.below ((Below.refl _ _).alloc (Nat.le_refl _) _)).arg (lit1 _ _ 3 rfl) (Nat.le_refl _) (by simp)).mono ?_
  rintro e w6 ⟨rfl, hb⟩
  have HOa6 := Lib.hid ((HOa5.out.below ((Below.refl _ _).alloc (Nat.le_refl _) _)).below hb)
  have HOb6 := Lib.hid ((HOb5.out.below ((Below.refl _ _).alloc (Nat.le_refl _) _)).below hb)
  have HOc6 := Lib.hid ((HOc5.out.below ((Below.refl _ _).alloc (Nat.le_refl _) _)).below hb)
  have Ki := (HKi5.out.alloc _).below hb
  have Ka := (HKa5.out.alloc _).below hb
  have Kb := (HKb5.out.alloc _).below hb
  have Kd := (HKd5.out.alloc _).below hb
  have Kc := (HKc5.out.alloc _).below hb
  have Kj := (HKj5.out.alloc _).below hb
  have Km := (BlkL.new _ [.int .i64 3] 2).below hb
  try simp only [World.size_alloc] at Km
  have HB6 := Lib.hid ((HB5.out.alloc (by have := HB5.out.size; simp; omega) _).trans (hb.mono (by have := HB5.out.size; simp <;> omega)))
  clear hb cb0 cb1 zb cc0 cc1 zc
  have HKi6 := Lib.hid Ki
  have HKa6 := Lib.hid Ka
  have HKb6 := Lib.hid Kb
  have HKd6 := Lib.hid Kd
  have HKc6 := Lib.hid Kc
  have HKj6 := Lib.hid Kj
  have HKm6 := Lib.hid Km
  clear Ki Ka Kb Kd Kc Kj Km
  go_wp2
  go_ret
  exact ⟨rfl, HB6.out⟩

set_option maxHeartbeats 1600000 in
theorem permBack_1 (w : World) (A : Option Addr) (n c : Nat) (xs : List Int) (p x y er : Int)
    (HARG : Hid (ArgI w w.heap.size A n c xs))
    (hn : n ≤ 17592186044000)
    (HA : Hid (∀ w, Calls Try.prog 37 #[] w (ValEnd w (.bool true))))
    (hl : Hid (xs.length = n))
    (TX : Hid (takeE p xs x = er))
    (hne : er ≠ 0)
    (hne2 : (er != 0) = true) :
    Calls Try.prog 14 #[.agg #[.int .i64 p, .slice A n c], .int .i64 x, .int .i64 y] w (ValEnd w (.bool true)) := by
  go_enter Try.func14, Try.ntmps14
  go_wp2_with fail
  with_reducible refine (HA.out _).mono ?_
  rintro e w1 ⟨rfl, hb⟩
  have Kl := (BlkL.new _ [.int .i64 p, .slice A n c] 73).below hb
  try simp only [World.size_alloc] at Kl
  have HB1 := Lib.hid (((Below.refl w.heap.size w).alloc (by simp <;> omega) _).trans (hb.mono (by simp <;> omega)))
  clear hb
  have cl0 := Kl.cell 0 _ rfl
  have cl1 := Kl.cell 1 _ rfl
  have zl := Kl.lt
  have HKl1 := Lib.hid Kl
  clear Kl
  go_wp2_with fail
  with_reducible refine (of6_any _ w.heap.size A n c xs p (HARG.out.below HB1.out) HB1.out.size hn).mono ?_
  rintro e w2 ⟨Aa, ca, rfl, ho, hb⟩
  have HOa2 := Lib.hid ho
  clear ho
  have Kl := HKl1.out.below hb
  have HB2 := Lib.hid (HB1.out.trans (hb.mono (by have := HB1.out.size; simp <;> omega)))
  clear hb cl0 cl1 zl
  have cl0 := Kl.cell 0 _ rfl
  have cl1 := Kl.cell 1 _ rfl
  have zl := Kl.lt
  have HKl2 := Lib.hid Kl
  clear Kl
  go_wp2_with fail
  with_reducible refine (take_err6 (t := x) (own_head (n := n) (HOa2.out.below ((Below.refl _ _).alloc (Nat.le_refl _) _)) hl.out (by omega)) (Nat.le_refl _) TX.out hne).mono ?_
  rintro e w3 ⟨rfl, hb⟩
  have HOa3 := Lib.hid ((HOa2.out.below ((Below.refl _ _).alloc (Nat.le_refl _) _)).below hb)
  have Kl := (HKl2.out.alloc _).below hb
  have Ka := (BlkL.new _ [.int .i64 p, .slice Aa n ca] 74).below hb
  try simp only [World.size_alloc] at Ka
  have HB3 := Lib.hid ((HB2.out.alloc (by have := HB2.out.size; simp; omega) _).trans (hb.mono (by have := HB2.out.size; simp <;> omega)))
  clear hb cl0 cl1 zl
  have HKl3 := Lib.hid Kl
  have HKa3 := Lib.hid Ka
  clear Kl Ka
  go_wp2
  go_ret
  exact ⟨rfl, (HB3.out.alloc HB3.out.size _)⟩


set_option maxHeartbeats 1600000 in
theorem permBack_2a (w : World) (A : Option Addr) (n c : Nat) (xs : List Int) (p x y er fr : Int)
    (HARG : Hid (ArgI w w.heap.size A n c xs))
    (hn : n ≤ 17592186044000)
    (HA : Hid (∀ w, Calls Try.prog 37 #[] w (ValEnd w (.bool true))))
    (hl : Hid (xs.length = n))
    (TX : Hid (takeE p xs x = 0))
    (TY : Hid (takeE p (putV xs x) y = er))
    (hne : er ≠ 0)
    (hne2 : (er != 0) = true)
    (TZ : Hid (takeE p xs y = fr))
    (hnf : fr ≠ 0) :
    Calls Try.prog 14 #[.agg #[.int .i64 p, .slice A n c], .int .i64 x, .int .i64 y] w (ValEnd w (.bool true)) := by
  go_enter Try.func14, Try.ntmps14
  go_wp2_with fail
  with_reducible refine (HA.out _).mono ?_
  rintro e w1 ⟨rfl, hb⟩
  have Kl := (BlkL.new _ [.int .i64 p, .slice A n c] 73).below hb
  try simp only [World.size_alloc] at Kl
  have HB1 := Lib.hid (((Below.refl w.heap.size w).alloc (by simp <;> omega) _).trans (hb.mono (by simp <;> omega)))
  clear hb
  have cl0 := Kl.cell 0 _ rfl
  have cl1 := Kl.cell 1 _ rfl
  have zl := Kl.lt
  have HKl1 := Lib.hid Kl
  clear Kl
  go_wp2_with fail
  with_reducible refine (of6_any _ w.heap.size A n c xs p (HARG.out.below HB1.out) HB1.out.size hn).mono ?_
  rintro e w2 ⟨Aa, ca, rfl, ho, hb⟩
  have HOa2 := Lib.hid ho
  clear ho
  have Kl := HKl1.out.below hb
  have HB2 := Lib.hid (HB1.out.trans (hb.mono (by have := HB1.out.size; simp <;> omega)))
  clear hb cl0 cl1 zl
  have cl0 := Kl.cell 0 _ rfl
  have cl1 := Kl.cell 1 _ rfl
  have zl := Kl.lt
  have HKl2 := Lib.hid Kl
  clear Kl
  go_wp2_with fail
  with_reducible refine (take_ok6 (m := n + 1) (t := x) (own_head (n := n) (HOa2.out.below ((Below.refl _ _).alloc (Nat.le_refl _) _)) hl.out (by omega)) (Nat.le_refl _) HOa2.out.shp TX.out rfl rfl).mono ?_
  rintro e w3 ⟨Ab, cb, rfl, ho, hb⟩
  have HOa3 := Lib.hid ((HOa2.out.below ((Below.refl _ _).alloc (Nat.le_refl _) _)).below hb)
  have HOb3 := Lib.hid ho
  clear ho
  have Kl := (HKl2.out.alloc _).below hb
  have Ka := (BlkL.new _ [.int .i64 p, .slice Aa n ca] 74).below hb
  try simp only [World.size_alloc] at Ka
  have HB3 := Lib.hid ((HB2.out.alloc (by have := HB2.out.size; simp; omega) _).trans (hb.mono (by have := HB2.out.size; simp <;> omega)))
  clear hb cl0 cl1 zl
  have HKl3 := Lib.hid Kl
  have HKa3 := Lib.hid Ka
  clear Kl Ka
  go_wp2_with fail
  with_reducible refine (give_ok6 (m := n) (t := x) (HOb3.out.below ((Below.refl _ _).alloc (Nat.le_refl _) _)).arg (Nat.le_refl _) HOb3.out.shp (sem_put TX.out) (by rw [has_put]; simp) (drop_put _ _ (takeE_zero.1 TX.out).2.2.2.1) (by omega)).mono ?_
  rintro e w4 ⟨Ac, cc, rfl, ho, hb⟩
  have HOa4 := Lib.hid ((HOa3.out.below ((Below.refl _ _).alloc (Nat.le_refl _) _)).below hb)
  have HOb4 := Lib.hid ((HOb3.out.below ((Below.refl _ _).alloc (Nat.le_refl _) _)).below hb)
  have HOc4 := Lib.hid ho
  clear ho
  have Kl := (HKl3.out.alloc _).below hb
  have Ka := (HKa3.out.alloc _).below hb
  have Kb := (BlkL.new _ [.int .i64 p, .slice Ab (n + 1) cb] 74).below hb
  try simp only [World.size_alloc] at Kb
  have HB4 := Lib.hid ((HB3.out.alloc (by have := HB3.out.size; simp; omega) _).trans (hb.mono (by have := HB3.out.size; simp <;> omega)))
  clear hb
  have cl0 := Kl.cell 0 _ rfl
  have cl1 := Kl.cell 1 _ rfl
  have zl := Kl.lt
  have HKl4 := Lib.hid Kl
  have HKa4 := Lib.hid Ka
  have HKb4 := Lib.hid Kb
  clear Kl Ka Kb
  go_wp2_with fail
  with_reducible refine (same6_yes _ _ _ Ac A n cc n c xs xs p rfl (HOc4.out.below ((Below.refl _ _).alloc (Nat.le_refl _) _)).arg (HARG.out.below (HB4.out.alloc HB4.out.size _)) (Nat.le_refl _) (by have := HB4.out.size; simp; omega)).mono ?_
  rintro e w5 ⟨rfl, hb⟩
  have HOa5 := Lib.hid ((HOa4.out.below ((Below.refl _ _).alloc (Nat.le_refl _) _)).below hb)
  have HOb5 := Lib.hid ((HOb4.out.below ((Below.refl _ _).alloc (Nat.le_refl _) _)).below hb)
  have HOc5 := Lib.hid ((HOc4.out.below ((Below.refl _ _).alloc (Nat.le_refl _) _)).below hb)
  have Kl := (HKl4.out.alloc _).below hb
  have Ka := (HKa4.out.alloc _).below hb
  have Kb := (HKb4.out.alloc _).below hb
  have Kc := (BlkL.new _ [.int .i64 p, .slice Ac n cc] 74).below hb
  try simp only [World.size_alloc] at Kc
  have HB5 := Lib.hid ((HB4.out.alloc (by have := HB4.out.size; simp; omega) _).trans (hb.mono (by have := HB4.out.size; simp <;> omega)))
  clear hb cl0 cl1 zl
  have cb0 := Kb.cell 0 _ rfl
  have cb1 := Kb.cell 1 _ rfl
  have zb := Kb.lt
  have HKl5 := Lib.hid Kl
  have HKa5 := Lib.hid Ka
  have HKb5 := Lib.hid Kb
  have HKc5 := Lib.hid Kc
  clear Kl Ka Kb Kc
  go_wp2_with fail
  with_reducible refine (take_err6 (t := y) HOb5.out.arg (Nat.le_refl _) TY.out hne).mono ?_
  rintro e w6 ⟨rfl, hb⟩
  have HOa6 := Lib.hid (HOa5.out.below hb)
  have HOb6 := Lib.hid (HOb5.out.below hb)
  have HOc6 := Lib.hid (HOc5.out.below hb)
  have Kl := HKl5.out.below hb
  have Ka := HKa5.out.below hb
  have Kb := HKb5.out.below hb
  have Kc := HKc5.out.below hb
  have HB6 := Lib.hid (HB5.out.trans (hb.mono (by have := HB5.out.size; simp <;> omega)))
  clear hb cb0 cb1 zb
  have ca0 := Ka.cell 0 _ rfl
  have ca1 := Ka.cell 1 _ rfl
  have za := Ka.lt
  have HKl6 := Lib.hid Kl
  have HKa6 := Lib.hid Ka
  have HKb6 := Lib.hid Kb
  have HKc6 := Lib.hid Kc
  clear Kl Ka Kb Kc
  go_wp2_with fail
  with_reducible refine (take_err6 (t := y) (own_head (n := n) (HOa6.out.below ((Below.refl _ _).alloc (Nat.le_refl _) _)) hl.out (by omega)) (Nat.le_refl _) TZ.out hnf).mono ?_
  rintro e w7 ⟨rfl, hb⟩
  have HOa7 := Lib.hid ((HOa6.out.below ((Below.refl _ _).alloc (Nat.le_refl _) _)).below hb)
  have HOb7 := Lib.hid ((HOb6.out.below ((Below.refl _ _).alloc (Nat.le_refl _) _)).below hb)
  have HOc7 := Lib.hid ((HOc6.out.below ((Below.refl _ _).alloc (Nat.le_refl _) _)).below hb)
  have Kl := (HKl6.out.alloc _).below hb
  have Ka := (HKa6.out.alloc _).below hb
  have Kb := (HKb6.out.alloc _).below hb
  have Kc := (HKc6.out.alloc _).below hb
  have Ku := (BlkL.new _ [.int .i64 0, .slice none 0 0] 74).below hb
  try simp only [World.size_alloc] at Ku
  have HB7 := Lib.hid ((HB6.out.alloc (by have := HB6.out.size; simp; omega) _).trans (hb.mono (by have := HB6.out.size; simp <;> omega)))
  clear hb ca0 ca1 za
  have HKl7 := Lib.hid Kl
  have HKa7 := Lib.hid Ka
  have HKb7 := Lib.hid Kb
  have HKc7 := Lib.hid Kc
  have HKu7 := Lib.hid Ku
  clear Kl Ka Kb Kc Ku
  go_wp2
  go_ret
  exact ⟨rfl, (HB7.out.alloc HB7.out.size _)⟩


set_option maxHeartbeats 1600000 in
theorem permBack_2b (w : World) (A : Option Addr) (n c : Nat) (xs : List Int) (p x y er : Int)
    (HARG : Hid (ArgI w w.heap.size A n c xs))
    (hn : n ≤ 17592186044000)
    (HA : Hid (∀ w, Calls Try.prog 37 #[] w (ValEnd w (.bool true))))
    (hl : Hid (xs.length = n))
    (TX : Hid (takeE p xs x = 0))
    (TY : Hid (takeE p (putV xs x) y = er))
    (hne : er ≠ 0)
    (hne2 : (er != 0) = true)
    (TZ : Hid (takeE p xs y = 0)) :
    Calls Try.prog 14 #[.agg #[.int .i64 p, .slice A n c], .int .i64 x, .int .i64 y] w (ValEnd w (.bool true)) := by
  go_enter Try.func14, Try.ntmps14
  go_wp2_with fail
  with_reducible refine (HA.out _).mono ?_
  rintro e w1 ⟨rfl, hb⟩
  have Kl := (BlkL.new _ [.int .i64 p, .slice A n c] 73).below hb
  try simp only [World.size_alloc] at Kl
  have HB1 := Lib.hid (((Below.refl w.heap.size w).alloc (by simp <;> omega) _).trans (hb.mono (by simp <;> omega)))
  clear hb
  have cl0 := Kl.cell 0 _ rfl
  have cl1 := Kl.cell 1 _ rfl
  have zl := Kl.lt
  have HKl1 := Lib.hid Kl
  clear Kl
  go_wp2_with fail
  with_reducible refine (of6_any _ w.heap.size A n c xs p (HARG.out.below HB1.out) HB1.out.size hn).mono ?_
  rintro e w2 ⟨Aa, ca, rfl, ho, hb⟩
  have HOa2 := Lib.hid ho
  clear ho
  have Kl := HKl1.out.below hb
  have HB2 := Lib.hid (HB1.out.trans (hb.mono (by have := HB1.out.size; simp <;> omega)))
  clear hb cl0 cl1 zl
  have cl0 := Kl.cell 0 _ rfl
  have cl1 := Kl.cell 1 _ rfl
  have zl := Kl.lt
  have HKl2 := Lib.hid Kl
  clear Kl
  go_wp2_with fail
  with_reducible refine (take_ok6 (m := n + 1) (t := x) (own_head (n := n) (HOa2.out.below ((Below.refl _ _).alloc (Nat.le_refl _) _)) hl.out (by omega)) (Nat.le_refl _) HOa2.out.shp TX.out rfl rfl).mono ?_
  rintro e w3 ⟨Ab, cb, rfl, ho, hb⟩
  have HOa3 := Lib.hid ((HOa2.out.below ((Below.refl _ _).alloc (Nat.le_refl _) _)).below hb)
  have HOb3 := Lib.hid ho
  clear ho
  have Kl := (HKl2.out.alloc _).below hb
  have Ka := (BlkL.new _ [.int .i64 p, .slice Aa n ca] 74).below hb
  try simp only [World.size_alloc] at Ka
  have HB3 := Lib.hid ((HB2.out.alloc (by have := HB2.out.size; simp; omega) _).trans (hb.mono (by have := HB2.out.size; simp <;> omega)))
  clear hb cl0 cl1 zl
  have HKl3 := Lib.hid Kl
  have HKa3 := Lib.hid Ka
  clear Kl Ka
  go_wp2_with fail
  with_reducible refine (give_ok6 (m := n) (t := x) (HOb3.out.below ((Below.refl _ _).alloc (Nat.le_refl _) _)).arg (Nat.le_refl _) HOb3.out.shp (sem_put TX.out) (by rw [has_put]; simp) (drop_put _ _ (takeE_zero.1 TX.out).2.2.2.1) (by omega)).mono ?_
  rintro e w4 ⟨Ac, cc, rfl, ho, hb⟩
  have HOa4 := Lib.hid ((HOa3.out.below ((Below.refl _ _).alloc (Nat.le_refl _) _)).below hb)
  have HOb4 := Lib.hid ((HOb3.out.below ((Below.refl _ _).alloc (Nat.le_refl _) _)).below hb)
  have HOc4 := Lib.hid ho
  clear ho
  have Kl := (HKl3.out.alloc _).below hb
  have Ka := (HKa3.out.alloc _).below hb
  have Kb := (BlkL.new _ [.int .i64 p, .slice Ab (n + 1) cb] 74).below hb
  try simp only [World.size_alloc] at Kb
  have HB4 := Lib.hid ((HB3.out.alloc (by have := HB3.out.size; simp; omega) _).trans (hb.mono (by have := HB3.out.size; simp <;> omega)))
  clear hb
  have cl0 := Kl.cell 0 _ rfl
  have cl1 := Kl.cell 1 _ rfl
  have zl := Kl.lt
  have HKl4 := Lib.hid Kl
  have HKa4 := Lib.hid Ka
  have HKb4 := Lib.hid Kb
  clear Kl Ka Kb
  go_wp2_with fail
  with_reducible refine (same6_yes _ _ _ Ac A n cc n c xs xs p rfl (HOc4.out.below ((Below.refl _ _).alloc (Nat.le_refl _) _)).arg (HARG.out.below (HB4.out.alloc HB4.out.size _)) (Nat.le_refl _) (by have := HB4.out.size; simp; omega)).mono ?_
  rintro e w5 ⟨rfl, hb⟩
  have HOa5 := Lib.hid ((HOa4.out.below ((Below.refl _ _).alloc (Nat.le_refl _) _)).below hb)
  have HOb5 := Lib.hid ((HOb4.out.below ((Below.refl _ _).alloc (Nat.le_refl _) _)).below hb)
  have HOc5 := Lib.hid ((HOc4.out.below ((Below.refl _ _).alloc (Nat.le_refl _) _)).below hb)
  have Kl := (HKl4.out.alloc _).below hb
  have Ka := (HKa4.out.alloc _).below hb
  have Kb := (HKb4.out.alloc _).below hb
  have Kc := (BlkL.new _ [.int .i64 p, .slice Ac n cc] 74).below hb
  try simp only [World.size_alloc] at Kc
  have HB5 := Lib.hid ((HB4.out.alloc (by have := HB4.out.size; simp; omega) _).trans (hb.mono (by have := HB4.out.size; simp <;> omega)))
  clear hb cl0 cl1 zl
  have cb0 := Kb.cell 0 _ rfl
  have cb1 := Kb.cell 1 _ rfl
  have zb := Kb.lt
  have HKl5 := Lib.hid Kl
  have HKa5 := Lib.hid Ka
  have HKb5 := Lib.hid Kb
  have HKc5 := Lib.hid Kc
  clear Kl Ka Kb Kc
  go_wp2_with fail
  with_reducible refine (take_err6 (t := y) HOb5.out.arg (Nat.le_refl _) TY.out hne).mono ?_
  rintro e w6 ⟨rfl, hb⟩
  have HOa6 := Lib.hid (HOa5.out.below hb)
  have HOb6 := Lib.hid (HOb5.out.below hb)
  have HOc6 := Lib.hid (HOc5.out.below hb)
  have Kl := HKl5.out.below hb
  have Ka := HKa5.out.below hb
  have Kb := HKb5.out.below hb
  have Kc := HKc5.out.below hb
  have HB6 := Lib.hid (HB5.out.trans (hb.mono (by have := HB5.out.size; simp <;> omega)))
  clear hb cb0 cb1 zb
  have ca0 := Ka.cell 0 _ rfl
  have ca1 := Ka.cell 1 _ rfl
  have za := Ka.lt
  have HKl6 := Lib.hid Kl
  have HKa6 := Lib.hid Ka
  have HKb6 := Lib.hid Kb
  have HKc6 := Lib.hid Kc
  clear Kl Ka Kb Kc
  go_wp2_with fail
  with_reducible refine (take_ok6 (m := n + 1) (t := y) (own_head (n := n) (HOa6.out.below ((Below.refl _ _).alloc (Nat.le_refl _) _)) hl.out (by omega)) (Nat.le_refl _) HOa6.out.shp TZ.out rfl rfl).mono ?_
  rintro e w7 ⟨Aq, cq, rfl, ho, hb⟩
  have HOa7 := Lib.hid ((HOa6.out.below ((Below.refl _ _).alloc (Nat.le_refl _) _)).below hb)
  have HOb7 := Lib.hid ((HOb6.out.below ((Below.refl _ _).alloc (Nat.le_refl _) _)).below hb)
  have HOc7 := Lib.hid ((HOc6.out.below ((Below.refl _ _).alloc (Nat.le_refl _) _)).below hb)
  have HOq7 := Lib.hid ho
  clear ho
  have Kl := (HKl6.out.alloc _).below hb
  have Ka := (HKa6.out.alloc _).below hb
  have Kb := (HKb6.out.alloc _).below hb
  have Kc := (HKc6.out.alloc _).below hb
  have Ku := (BlkL.new _ [.int .i64 0, .slice none 0 0] 74).below hb
  try simp only [World.size_alloc] at Ku
  have HB7 := Lib.hid ((HB6.out.alloc (by have := HB6.out.size; simp; omega) _).trans (hb.mono (by have := HB6.out.size; simp <;> omega)))
  clear hb ca0 ca1 za
  have HKl7 := Lib.hid Kl
  have HKa7 := Lib.hid Ka
  have HKb7 := Lib.hid Kb
  have HKc7 := Lib.hid Kc
  have HKu7 := Lib.hid Ku
  clear Kl Ka Kb Kc Ku
  go_wp2
  go_ret
  exact ⟨rfl, (HB7.out.alloc HB7.out.size _)⟩


set_option maxHeartbeats 1600000 in
theorem permBack_3 (w : World) (A : Option Addr) (n c : Nat) (xs : List Int) (p x y : Int)
    (HARG : Hid (ArgI w w.heap.size A n c xs))
    (hn : n ≤ 17592186044000)
    (HA : Hid (∀ w, Calls Try.prog 37 #[] w (ValEnd w (.bool true))))
    (hl : Hid (xs.length = n))
    (TX : Hid (takeE p xs x = 0))
    (TY : Hid (takeE p (putV xs x) y = 0))
    (TZ : Hid (takeE p xs y = 0))
    (TW : Hid (takeE p (putV xs y) x = 0))
    (HEQ : Hid (putV (putV xs x) y = putV (putV xs y) x)) :
    Calls Try.prog 14 #[.agg #[.int .i64 p, .slice A n c], .int .i64 x, .int .i64 y] w (ValEnd w (.bool true)) := by
  go_enter Try.func14, Try.ntmps14
  go_wp2_with fail
  with_reducible refine (HA.out _).mono ?_
  rintro e w1 ⟨rfl, hb⟩
  have Kl := (BlkL.new _ [.int .i64 p, .slice A n c] 73).below hb
  try simp only [World.size_alloc] at Kl
  have HB1 := Lib.hid (((Below.refl w.heap.size w).alloc (by simp <;> omega) _).trans (hb.mono (by simp <;> omega)))
  clear hb
  have cl0 := Kl.cell 0 _ rfl
  have cl1 := Kl.cell 1 _ rfl
  have zl := Kl.lt
  have HKl1 := Lib.hid Kl
  clear Kl
  go_wp2_with fail
  with_reducible refine (of6_any _ w.heap.size A n c xs p (HARG.out.below HB1.out) HB1.out.size hn).mono ?_
  rintro e w2 ⟨Aa, ca, rfl, ho, hb⟩
  have HOa2 := Lib.hid ho
  clear ho
  have Kl := HKl1.out.below hb
  have HB2 := Lib.hid (HB1.out.trans (hb.mono (by have := HB1.out.size; simp <;> omega)))
  clear hb cl0 cl1 zl
  have cl0 := Kl.cell 0 _ rfl
  have cl1 := Kl.cell 1 _ rfl
  have zl := Kl.lt
  have HKl2 := Lib.hid Kl
  clear Kl
  go_wp2_with fail
  with_reducible refine (take_ok6 (m := n + 1) (t := x) (own_head (n := n) (HOa2.out.below ((Below.refl _ _).alloc (Nat.le_refl _) _)) hl.out (by omega)) (Nat.le_refl _) HOa2.out.shp TX.out rfl rfl).mono ?_
  rintro e w3 ⟨Ab, cb, rfl, ho, hb⟩
  have HOa3 := Lib.hid ((HOa2.out.below ((Below.refl _ _).alloc (Nat.le_refl _) _)).below hb)
  have HOb3 := Lib.hid ho
  clear ho
  have Kl := (HKl2.out.alloc _).below hb
  have Ka := (BlkL.new _ [.int .i64 p, .slice Aa n ca] 74).below hb
  try simp only [World.size_alloc] at Ka
  have HB3 := Lib.hid ((HB2.out.alloc (by have := HB2.out.size; simp; omega) _).trans (hb.mono (by have := HB2.out.size; simp <;> omega)))
  clear hb cl0 cl1 zl
  have HKl3 := Lib.hid Kl
  have HKa3 := Lib.hid Ka
  clear Kl Ka
  go_wp2_with fail
  with_reducible refine (give_ok6 (m := n) (t := x) (HOb3.out.below ((Below.refl _ _).alloc (Nat.le_refl _) _)).arg (Nat.le_refl _) HOb3.out.shp (sem_put TX.out) (by rw [has_put]; simp) (drop_put _ _ (takeE_zero.1 TX.out).2.2.2.1) (by omega)).mono ?_
  rintro e w4 ⟨Ac, cc, rfl, ho, hb⟩
  have HOa4 := Lib.hid ((HOa3.out.below ((Below.refl _ _).alloc (Nat.le_refl _) _)).below hb)
  have HOb4 := Lib.hid ((HOb3.out.below ((Below.refl _ _).alloc (Nat.le_refl _) _)).below hb)
  have HOc4 := Lib.hid ho
  clear ho
  have Kl := (HKl3.out.alloc _).below hb
  have Ka := (HKa3.out.alloc _).below hb
  have Kb := (BlkL.new _ [.int .i64 p, .slice Ab (n + 1) cb] 74).below hb
  try simp only [World.size_alloc] at Kb
  have HB4 := Lib.hid ((HB3.out.alloc (by have := HB3.out.size; simp; omega) _).trans (hb.mono (by have := HB3.out.size; simp <;> omega)))
  clear hb
  have cl0 := Kl.cell 0 _ rfl
  have cl1 := Kl.cell 1 _ rfl
  have zl := Kl.lt
  have HKl4 := Lib.hid Kl
  have HKa4 := Lib.hid Ka
  have HKb4 := Lib.hid Kb
  clear Kl Ka Kb
  go_wp2_with fail
  with_reducible refine (same6_yes _ _ _ Ac A n cc n c xs xs p rfl (HOc4.out.below ((Below.refl _ _).alloc (Nat.le_refl _) _)).arg (HARG.out.below (HB4.out.alloc HB4.out.size _)) (Nat.le_refl _) (by have := HB4.out.size; simp; omega)).mono ?_
  rintro e w5 ⟨rfl, hb⟩
  have HOa5 := Lib.hid ((HOa4.out.below ((Below.refl _ _).alloc (Nat.le_refl _) _)).below hb)
  have HOb5 := Lib.hid ((HOb4.out.below ((Below.refl _ _).alloc (Nat.le_refl _) _)).below hb)
  have HOc5 := Lib.hid ((HOc4.out.below ((Below.refl _ _).alloc (Nat.le_refl _) _)).below hb)
  have Kl := (HKl4.out.alloc _).below hb
  have Ka := (HKa4.out.alloc _).below hb
  have Kb := (HKb4.out.alloc _).below hb
  have Kc := (BlkL.new _ [.int .i64 p, .slice Ac n cc] 74).below hb
  try simp only [World.size_alloc] at Kc
  have HB5 := Lib.hid ((HB4.out.alloc (by have := HB4.out.size; simp; omega) _).trans (hb.mono (by have := HB4.out.size; simp <;> omega)))
  clear hb cl0 cl1 zl
  have cb0 := Kb.cell 0 _ rfl
  have cb1 := Kb.cell 1 _ rfl
  have zb := Kb.lt
  have HKl5 := Lib.hid Kl
  have HKa5 := Lib.hid Ka
  have HKb5 := Lib.hid Kb
  have HKc5 := Lib.hid Kc
  clear Kl Ka Kb Kc
  go_wp2_with fail
  with_reducible refine (take_ok6 (m := n + 2) (t := y) HOb5.out.arg (Nat.le_refl _) HOb5.out.shp TY.out rfl rfl).mono ?_
  rintro e w6 ⟨Au, cu, rfl, ho, hb⟩
  have HOa6 := Lib.hid (HOa5.out.below hb)
  have HOb6 := Lib.hid (HOb5.out.below hb)
  have HOc6 := Lib.hid (HOc5.out.below hb)
  have HOu6 := Lib.hid ho
  clear ho
  have Kl := HKl5.out.below hb
  have Ka := HKa5.out.below hb
  have Kb := HKb5.out.below hb
  have Kc := HKc5.out.below hb
  have HB6 := Lib.hid (HB5.out.trans (hb.mono (by have := HB5.out.size; simp <;> omega)))
  clear hb cb0 cb1 zb
  have ca0 := Ka.cell 0 _ rfl
  have ca1 := Ka.cell 1 _ rfl
  have za := Ka.lt
  have HKl6 := Lib.hid Kl
  have HKa6 := Lib.hid Ka
  have HKb6 := Lib.hid Kb
  have HKc6 := Lib.hid Kc
  clear Kl Ka Kb Kc
  go_wp2_with fail
  with_reducible refine (take_ok6 (m := n + 1) (t := y) (own_head (n := n) (HOa6.out.below ((Below.refl _ _).alloc (Nat.le_refl _) _)) hl.out (by omega)) (Nat.le_refl _) HOa6.out.shp TZ.out rfl rfl).mono ?_
  rintro e w7 ⟨Aq, cq, rfl, ho, hb⟩
  have HOa7 := Lib.hid ((HOa6.out.below ((Below.refl _ _).alloc (Nat.le_refl _) _)).below hb)
  have HOb7 := Lib.hid ((HOb6.out.below ((Below.refl _ _).alloc (Nat.le_refl _) _)).below hb)
  have HOc7 := Lib.hid ((HOc6.out.below ((Below.refl _ _).alloc (Nat.le_refl _) _)).below hb)
  have HOu7 := Lib.hid ((HOu6.out.below ((Below.refl _ _).alloc (Nat.le_refl _) _)).below hb)
  have HOq7 := Lib.hid ho
  clear ho
  have Kl := (HKl6.out.alloc _).below hb
  have Ka := (HKa6.out.alloc _).below hb
  have Kb := (HKb6.out.alloc _).below hb
  have Kc := (HKc6.out.alloc _).below hb
  have Ku := (BlkL.new _ [.int .i64 p, .slice Au (n + 2) cu] 74).below hb
  try simp only [World.size_alloc] at Ku
  have HB7 := Lib.hid ((HB6.out.alloc (by have := HB6.out.size; simp; omega) _).trans (hb.mono (by have := HB6.out.size; simp <;> omega)))
  clear hb ca0 ca1 za
  have cu0 := Ku.cell 0 _ rfl
  have cu1 := Ku.cell 1 _ rfl
  have zu := Ku.lt
  have HKl7 := Lib.hid Kl
  have HKa7 := Lib.hid Ka
  have HKb7 := Lib.hid Kb
  have HKc7 := Lib.hid Kc
  have HKu7 := Lib.hid Ku
  clear Kl Ka Kb Kc Ku
  go_wp2_with fail
  with_reducible refine (take_ok6 (m := n + 2) (t := x) (HOq7.out.below ((Below.refl _ _).alloc (Nat.le_refl _) _)).arg (Nat.le_refl _) HOq7.out.shp TW.out rfl rfl).mono ?_
  rintro e w8 ⟨Ar, cr, rfl, ho, hb⟩
  have HOa8 := Lib.hid ((HOa7.out.below ((Below.refl _ _).alloc (Nat.le_refl _) _)).below hb)
  have HOb8 := Lib.hid ((HOb7.out.below ((Below.refl _ _).alloc (Nat.le_refl _) _)).below hb)
  have HOc8 := Lib.hid ((HOc7.out.below ((Below.refl _ _).alloc (Nat.le_refl _) _)).below hb)
  have HOu8 := Lib.hid ((HOu7.out.below ((Below.refl _ _).alloc (Nat.le_refl _) _)).below hb)
  have HOq8 := Lib.hid ((HOq7.out.below ((Below.refl _ _).alloc (Nat.le_refl _) _)).below hb)
  have HOr8 := Lib.hid ho
  clear ho
  have Kl := (HKl7.out.alloc _).below hb
  have Ka := (HKa7.out.alloc _).below hb
  have Kb := (HKb7.out.alloc _).below hb
  have Kc := (HKc7.out.alloc _).below hb
  have Ku := (HKu7.out.alloc _).below hb
  have Kq := (BlkL.new _ [.int .i64 p, .slice Aq (n + 1) cq] 74).below hb
  try simp only [World.size_alloc] at Kq
  have HB8 := Lib.hid ((HB7.out.alloc (by have := HB7.out.size; simp; omega) _).trans (hb.mono (by have := HB7.out.size; simp <;> omega)))
  clear hb cu0 cu1 zu
  have cu0 := Ku.cell 0 _ rfl
  have cu1 := Ku.cell 1 _ rfl
  have zu := Ku.lt
  have HKl8 := Lib.hid Kl
  have HKa8 := Lib.hid Ka
  have HKb8 := Lib.hid Kb
  have HKc8 := Lib.hid Kc
  have HKu8 := Lib.hid Ku
  have HKq8 := Lib.hid Kq
  clear Kl Ka Kb Kc Ku Kq
  go_wp2_with fail
  with_reducible refine (sameInts_yes _ _ _ Ar Au (n + 2) cr (n + 2) cu _ _ HEQ.out.symm (HOr8.out.below ((Below.refl _ _).alloc (Nat.le_refl _) _)).arg (HOu8.out.below ((Below.refl _ _).alloc (Nat.le_refl _) _)).arg).mono ?_
  rintro e w9 ⟨rfl, hb⟩
  have HOa9 := Lib.hid ((HOa8.out.below ((Below.refl _ _).alloc (Nat.le_refl _) _)).below hb)
  have HOb9 := Lib.hid ((HOb8.out.below ((Below.refl _ _).alloc (Nat.le_refl _) _)).below hb)
  have HOc9 := Lib.hid ((HOc8.out.below ((Below.refl _ _).alloc (Nat.le_refl _) _)).below hb)
  have HOu9 := Lib.hid ((HOu8.out.below ((Below.refl _ _).alloc (Nat.le_refl _) _)).below hb)
  have HOq9 := Lib.hid ((HOq8.out.below ((Below.refl _ _).alloc (Nat.le_refl _) _)).below hb)
  have HOr9 := Lib.hid ((HOr8.out.below ((Below.refl _ _).alloc (Nat.le_refl _) _)).below hb)
  have Kl := (HKl8.out.alloc _).below hb
  have Ka := (HKa8.out.alloc _).below hb
  have Kb := (HKb8.out.alloc _).below hb
  have Kc := (HKc8.out.alloc _).below hb
  have Ku := (HKu8.out.alloc _).below hb
  have Kq := (HKq8.out.alloc _).below hb
  have Kr := (BlkL.new _ [.int .i64 p, .slice Ar (n + 2) cr] 74).below hb
  try simp only [World.size_alloc] at Kr
  have HB9 := Lib.hid ((HB8.out.alloc (by have := HB8.out.size; simp; omega) _).trans (hb.mono (by have := HB8.out.size; simp <;> omega)))
  clear hb cu0 cu1 zu
  have HKl9 := Lib.hid Kl
  have HKa9 := Lib.hid Ka
  have HKb9 := Lib.hid Kb
  have HKc9 := Lib.hid Kc
  have HKu9 := Lib.hid Ku
  have HKq9 := Lib.hid Kq
  have HKr9 := Lib.hid Kr
  clear Kl Ka Kb Kc Ku Kq Kr
  go_wp2
  go_ret
  exact ⟨rfl, HB9.out⟩


theorem permBack_walk (w : World) (A : Option Addr) (n c : Nat) (xs : List Int) (p x y : Int) (h : ArgI w w.heap.size A n c xs) (hn : n ≤ 17592186044000) :
    Calls Try.prog 14 #[.agg #[.int .i64 p, .slice A n c], .int .i64 x, .int .i64 y] w (ValEnd w (.bool true)) := by
  have HA := Lib.hid awake6_any
  have hl := Lib.hid h.len
  by_cases h1 : takeE p xs x = 0
  · by_cases h2 : takeE p (putV xs x) y = 0
    · obtain ⟨h3, h4, h5⟩ := take_swap h1 h2
      exact permBack_3 w A n c xs p x y (Lib.hid h) hn HA hl (Lib.hid h1) (Lib.hid h2) (Lib.hid h3) (Lib.hid h4) (Lib.hid h5)
    · by_cases h3 : takeE p xs y = 0
      · exact permBack_2b w A n c xs p x y _ (Lib.hid h) hn HA hl (Lib.hid h1) (Lib.hid rfl) h2 (bne_iff_ne.2 h2) (Lib.hid h3)
      · exact permBack_2a w A n c xs p x y _ _ (Lib.hid h) hn HA hl (Lib.hid h1) (Lib.hid rfl) h2 (bne_iff_ne.2 h2) (Lib.hid rfl) h3
  · exact permBack_1 w A n c xs p x y _ (Lib.hid h) hn HA hl (Lib.hid rfl) h1 (bne_iff_ne.2 h1)

end Go.Proofs.Ythigbhhhhebjeaa
