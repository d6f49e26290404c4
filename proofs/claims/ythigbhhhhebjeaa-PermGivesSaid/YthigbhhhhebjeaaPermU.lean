/- The law PermTakes: its walk. -/
import Derived.Test.YthigbhhhhebjeaaPermJ
namespace Go.Proofs.Ythigbhhhhebjeaa
open Go.RowKit
set_option maxRecDepth 100000
set_option linter.unusedVariables false

theorem docTake_err6 {w : World} {B n c : Nat} {A : Option Addr} {xs : List Int} {p t er : Int} (h : ArgI w B A n c xs) (hB : B ≤ w.heap.size) (ht : takeE p xs t = er) (hne : er ≠ 0) :
    Calls Try.prog 34 #[.agg #[.int .i64 p, .slice A n c], .int .i64 t] w (ValEnd w (.tuple #[.agg #[.int .i64 0, .slice none 0 0], .int .i64 er])) := by
  subst ht; exact docTake_bad h hB hne

set_option maxHeartbeats 3200000 in
theorem permTakes_1 (w : World) (A : Option Addr) (n c : Nat) (xs : List Int) (p x r r0 re er : Int)
    (HARG : Hid (ArgI w w.heap.size A n c xs))
    (hn : n ≤ 17592186044000)
    (HA : Hid (∀ w, Calls Try.prog 37 #[] w (ValEnd w (.bool true))))
    (hl : Hid (xs.length = n))
    (HN : Hid (∀ w, Calls Try.prog 35 #[.int .i64 r] w (ValEnd w (.tuple #[.agg #[.int .i64 r0, .slice none 0 0], .int .i64 re]))))
    (HD : Hid (∀ w, Calls Try.prog 36 #[.int .i64 r] w (ValEnd w (.tuple #[.agg #[.int .i64 r0, .slice none 0 0], .int .i64 re]))))
    (TX : Hid (takeE p xs x = er))
    (hne : er ≠ 0) :
    Calls Try.prog 11 #[.agg #[.int .i64 p, .slice A n c], .int .i64 x, .int .i64 r] w (ValEnd w (.bool true)) := by
  go_enter Try.func11, Try.ntmps11
  go_wp2_with fail
  with_reducible refine (of6_any _ w.heap.size A n c xs p (HARG.out.below ((Below.refl _ w).alloc (Nat.le_refl _) _)) (by simp) hn).mono ?_
  rintro e w1 ⟨Aa, ca, rfl, ho, hb⟩
  have HOa1 := Lib.hid ho
  clear ho
  have Kl := (BlkL.new _ [.int .i64 p, .slice A n c] 73).below hb
  try simp only [World.size_alloc] at Kl
  have HB1 := Lib.hid (((Below.refl w.heap.size w).alloc (by simp <;> omega) _).trans (hb.mono (by simp <;> omega)))
  clear hb
  have cl0 := Kl.cell 0 _ rfl
  have cl1 := Kl.cell 1 _ rfl
  have zl := Kl.lt
  have HKl1 := Lib.hid Kl
  clear Kl
  go_wp2_with fail
  with_reducible refine (take_err6 (t := x) (own_head (n := n) (HOa1.out.below ((Below.refl _ _).alloc (Nat.le_refl _) _)) hl.out (by omega)) (Nat.le_refl _) TX.out hne).mono ?_
  rintro e w2 ⟨rfl, hb⟩
  have HOa2 := Lib.hid ((HOa1.out.below ((Below.refl _ _).alloc (Nat.le_refl _) _)).below hb)
  have Kl := (HKl1.out.alloc _).below hb
  have HB2 := Lib.hid ((HB1.out.alloc (by have := HB1.out.size; simp; omega) _).trans (hb.mono (by have := HB1.out.size; simp <;> omega)))
  clear hb cl0 cl1 zl
  have cl0 := Kl.cell 0 _ rfl
  have cl1 := Kl.cell 1 _ rfl
  have zl := Kl.lt
  have HKl2 := Lib.hid Kl
  clear Kl
  go_wp2_with fail
  with_reducible refine (docTake_err6 (t := x) (HARG.out.below (HB2.out.alloc HB2.out.size _)) (by have := HB2.out.size; simp; omega) TX.out hne).mono ?_
  rintro e w3 ⟨rfl, hb⟩
  have HOa3 := Lib.hid ((HOa2.out.below ((Below.refl _ _).alloc (Nat.le_refl _) _)).below hb)
  have Kl := (HKl2.out.alloc _).below hb
  have Kb := (BlkL.new _ [.int .i64 0, .slice none 0 0] 74).below hb
  try simp only [World.size_alloc] at Kb
  have HB3 := Lib.hid ((HB2.out.alloc (by have := HB2.out.size; simp; omega) _).trans (hb.mono (by have := HB2.out.size; simp <;> omega)))
  clear hb cl0 cl1 zl
  have HKl3 := Lib.hid Kl
  have HKb3 := Lib.hid Kb
  clear Kl Kb
  go_wp2_with fail
  with_reducible refine (HN.out _).mono ?_
  rintro e w4 ⟨rfl, hb⟩
  have HOa4 := Lib.hid ((HOa3.out.below ((Below.refl _ _).alloc (Nat.le_refl _) _)).below hb)
  have Kl := (HKl3.out.alloc _).below hb
  have Kb := (HKb3.out.alloc _).below hb
  have Kd := (BlkL.new _ [.int .i64 0, .slice none 0 0] 73).below hb
  try simp only [World.size_alloc] at Kd
  have HB4 := Lib.hid ((HB3.out.alloc (by have := HB3.out.size; simp; omega) _).trans (hb.mono (by have := HB3.out.size; simp <;> omega)))
  clear hb
  have HKl4 := Lib.hid Kl
  have HKb4 := Lib.hid Kb
  have HKd4 := Lib.hid Kd
  clear Kl Kb Kd
  go_wp2_with fail
  with_reducible refine (HD.out _).mono ?_
  rintro e w5 ⟨rfl, hb⟩
  have HOa5 := Lib.hid ((HOa4.out.below ((Below.refl _ _).alloc (Nat.le_refl _) _)).below hb)
  have Kl := (HKl4.out.alloc _).below hb
  have Kb := (HKb4.out.alloc _).below hb
  have Kd := (HKd4.out.alloc _).below hb
  have Km := (BlkL.new _ [.int .i64 r0, .slice none 0 0] 74).below hb
  try simp only [World.size_alloc] at Km
  have HB5 := Lib.hid ((HB4.out.alloc (by have := HB4.out.size; simp; omega) _).trans (hb.mono (by have := HB4.out.size; simp <;> omega)))
  clear hb
  have HKl5 := Lib.hid Kl
  have HKb5 := Lib.hid Kb
  have HKd5 := Lib.hid Kd
  have HKm5 := Lib.hid Km
  clear Kl Kb Kd Km
  go_wp2_with fail
  with_reducible refine (HA.out _).mono ?_
  rintro e w6 ⟨rfl, hb⟩
  have HOa6 := Lib.hid ((HOa5.out.below ((Below.refl _ _).alloc (Nat.le_refl _) _)).below hb)
  have Kl := (HKl5.out.alloc _).below hb
  have Kb := (HKb5.out.alloc _).below hb
  have Kd := (HKd5.out.alloc _).below hb
  have Km := (HKm5.out.alloc _).below hb
  have Ko := (BlkL.new _ [.int .i64 r0, .slice none 0 0] 73).below hb
  try simp only [World.size_alloc] at Ko
  have HB6 := Lib.hid ((HB5.out.alloc (by have := HB5.out.size; simp; omega) _).trans (hb.mono (by have := HB5.out.size; simp <;> omega)))
  clear hb
  have cb0 := Kb.cell 0 _ rfl
  have cb1 := Kb.cell 1 _ rfl
  have zb := Kb.lt
  have cd0 := Kd.cell 0 _ rfl
  have cd1 := Kd.cell 1 _ rfl
  have zd := Kd.lt
  have HKl6 := Lib.hid Kl
  have HKb6 := Lib.hid Kb
  have HKd6 := Lib.hid Kd
  have HKm6 := Lib.hid Km
  have HKo6 := Lib.hid Ko
  clear Kl Kb Kd Km Ko
  go_wp2_with fail
  with_reducible refine (same6_yes _ 0 0 none none 0 0 0 0 [] [] 0 rfl (ArgI.nil _ _) (ArgI.nil _ _) (Nat.zero_le _) (Nat.zero_le _)).mono ?_
  rintro e w7 ⟨rfl, hb⟩
  have HOa7 := Lib.hid (HOa6.out.below hb)
  have Kl := HKl6.out.below hb
  have Kb := HKb6.out.below hb
  have Kd := HKd6.out.below hb
  have Km := HKm6.out.below hb
  have Ko := HKo6.out.below hb
  have HB7 := Lib.hid (HB6.out.trans (hb.mono (by have := HB6.out.size; simp <;> omega)))
  clear hb cb0 cb1 zb cd0 cd1 zd
  have cm0 := Km.cell 0 _ rfl
  have cm1 := Km.cell 1 _ rfl
  have zm := Km.lt
  have co0 := Ko.cell 0 _ rfl
  have co1 := Ko.cell 1 _ rfl
  have zo := Ko.lt
  have HKl7 := Lib.hid Kl
  have HKb7 := Lib.hid Kb
  have HKd7 := Lib.hid Kd
  have HKm7 := Lib.hid Km
  have HKo7 := Lib.hid Ko
  clear Kl Kb Kd Km Ko
  go_wp2_with fail
  with_reducible refine (same6_yes _ 0 0 none none 0 0 0 0 [] [] r0 rfl (ArgI.nil _ _) (ArgI.nil _ _) (Nat.zero_le _) (Nat.zero_le _)).mono ?_
  rintro e w8 ⟨rfl, hb⟩
  have HOa8 := Lib.hid (HOa7.out.below hb)
  have Kl := HKl7.out.below hb
  have Kb := HKb7.out.below hb
  have Kd := HKd7.out.below hb
  have Km := HKm7.out.below hb
  have Ko := HKo7.out.below hb
  have HB8 := Lib.hid (HB7.out.trans (hb.mono (by have := HB7.out.size; simp <;> omega)))
  clear hb cm0 cm1 zm co0 co1 zo
  have cl0 := Kl.cell 0 _ rfl
  have cl1 := Kl.cell 1 _ rfl
  have zl := Kl.lt
  have HKl8 := Lib.hid Kl
  have HKb8 := Lib.hid Kb
  have HKd8 := Lib.hid Kd
  have HKm8 := Lib.hid Km
  have HKo8 := Lib.hid Ko
  clear Kl Kb Kd Km Ko
  go_wp2_with fail
  with_reducible refine (kept6_any _ _ _ A Aa n c ca xs p HOa8.out.arg (HARG.out.below HB8.out) (Nat.le_refl _) HB8.out.size).mono ?_
  rintro e w9 ⟨rfl, hb⟩
  have HOa9 := Lib.hid (HOa8.out.below hb)
  have Kl := HKl8.out.below hb
  have Kb := HKb8.out.below hb
  have Kd := HKd8.out.below hb
  have Km := HKm8.out.below hb
  have Ko := HKo8.out.below hb
  have HB9 := Lib.hid (HB8.out.trans (hb.mono (by have := HB8.out.size; simp <;> omega)))
  clear hb cl0 cl1 zl
  have HKl9 := Lib.hid Kl
  have HKb9 := Lib.hid Kb
  have HKd9 := Lib.hid Kd
  have HKm9 := Lib.hid Km
  have HKo9 := Lib.hid Ko
  clear Kl Kb Kd Km Ko
  go_wp2
  go_ret
  exact ⟨rfl, HB9.out⟩

set_option maxHeartbeats 3200000 in
theorem permTakes_2 (w : World) (A : Option Addr) (n c : Nat) (xs : List Int) (p x r r0 re : Int)
    (HARG : Hid (ArgI w w.heap.size A n c xs))
    (hn : n ≤ 17592186044000)
    (HA : Hid (∀ w, Calls Try.prog 37 #[] w (ValEnd w (.bool true))))
    (hl : Hid (xs.length = n))
    (HN : Hid (∀ w, Calls Try.prog 35 #[.int .i64 r] w (ValEnd w (.tuple #[.agg #[.int .i64 r0, .slice none 0 0], .int .i64 re]))))
    (HD : Hid (∀ w, Calls Try.prog 36 #[.int .i64 r] w (ValEnd w (.tuple #[.agg #[.int .i64 r0, .slice none 0 0], .int .i64 re]))))
    (TX : Hid (takeE p xs x = 0)) :
    Calls Try.prog 11 #[.agg #[.int .i64 p, .slice A n c], .int .i64 x, .int .i64 r] w (ValEnd w (.bool true)) := by
  go_enter Try.func11, Try.ntmps11
  go_wp2_with fail
  with_reducible refine (of6_any _ w.heap.size A n c xs p (HARG.out.below ((Below.refl _ w).alloc (Nat.le_refl _) _)) (by simp) hn).mono ?_
  rintro e w1 ⟨Aa, ca, rfl, ho, hb⟩
  have HOa1 := Lib.hid ho
  clear ho
  have Kl := (BlkL.new _ [.int .i64 p, .slice A n c] 73).below hb
  try simp only [World.size_alloc] at Kl
  have HB1 := Lib.hid (((Below.refl w.heap.size w).alloc (by simp <;> omega) _).trans (hb.mono (by simp <;> omega)))
  clear hb
  have cl0 := Kl.cell 0 _ rfl
  have cl1 := Kl.cell 1 _ rfl
  have zl := Kl.lt
  have HKl1 := Lib.hid Kl
  clear Kl
  go_wp2_with fail
  with_reducible refine (take_ok6 (m := n + 1) (t := x) (own_head (n := n) (HOa1.out.below ((Below.refl _ _).alloc (Nat.le_refl _) _)) hl.out (by omega)) (Nat.le_refl _) HOa1.out.shp TX.out rfl rfl).mono ?_
  rintro e w2 ⟨Ab, cb, rfl, ho, hb⟩
  have HOa2 := Lib.hid ((HOa1.out.below ((Below.refl _ _).alloc (Nat.le_refl _) _)).below hb)
  have HOb2 := Lib.hid ho
  clear ho
  have Kl := (HKl1.out.alloc _).below hb
  have HB2 := Lib.hid ((HB1.out.alloc (by have := HB1.out.size; simp; omega) _).trans (hb.mono (by have := HB1.out.size; simp <;> omega)))
  clear hb cl0 cl1 zl
  have cl0 := Kl.cell 0 _ rfl
  have cl1 := Kl.cell 1 _ rfl
  have zl := Kl.lt
  have HKl2 := Lib.hid Kl
  clear Kl
  go_wp2_with fail
  with_reducible refine (docTake_good (t := x) (HARG.out.below (HB2.out.alloc HB2.out.size _)) (by have := HB2.out.size; simp; omega) TX.out).mono ?_
  rintro e w3 ⟨Ad, cd, rfl, ho, hb⟩
  have HOa3 := Lib.hid ((HOa2.out.below ((Below.refl _ _).alloc (Nat.le_refl _) _)).below hb)
  have HOb3 := Lib.hid ((HOb2.out.below ((Below.refl _ _).alloc (Nat.le_refl _) _)).below hb)
  have HOd3 := Lib.hid ho
  clear ho
  have Kl := (HKl2.out.alloc _).below hb
  have Kb := (BlkL.new _ [.int .i64 p, .slice Ab (n + 1) cb] 74).below hb
  try simp only [World.size_alloc] at Kb
  have HB3 := Lib.hid ((HB2.out.alloc (by have := HB2.out.size; simp; omega) _).trans (hb.mono (by have := HB2.out.size; simp <;> omega)))
  clear hb cl0 cl1 zl
  have HKl3 := Lib.hid Kl
  have HKb3 := Lib.hid Kb
  clear Kl Kb
  go_wp2_with fail
  with_reducible refine (HN.out _).mono ?_
  rintro e w4 ⟨rfl, hb⟩
  have HOa4 := Lib.hid ((HOa3.out.below ((Below.refl _ _).alloc (Nat.le_refl _) _)).below hb)
  have HOb4 := Lib.hid ((HOb3.out.below ((Below.refl _ _).alloc (Nat.le_refl _) _)).below hb)
  have HOd4 := Lib.hid ((HOd3.out.below ((Below.refl _ _).alloc (Nat.le_refl _) _)).below hb)
  have Kl := (HKl3.out.alloc _).below hb
  have Kb := (HKb3.out.alloc _).below hb
  have Kd := (BlkL.new _ [.int .i64 p, .slice Ad (n + 1) cd] 73).below hb
  try simp only [World.size_alloc] at Kd
  have HB4 := Lib.hid ((HB3.out.alloc (by have := HB3.out.size; simp; omega) _).trans (hb.mono (by have := HB3.out.size; simp <;> omega)))
  clear hb
  have HKl4 := Lib.hid Kl
  have HKb4 := Lib.hid Kb
  have HKd4 := Lib.hid Kd
  clear Kl Kb Kd
  go_wp2_with fail
  with_reducible refine (HD.out _).mono ?_
  rintro e w5 ⟨rfl, hb⟩
  have HOa5 := Lib.hid ((HOa4.out.below ((Below.refl _ _).alloc (Nat.le_refl _) _)).below hb)
  have HOb5 := Lib.hid ((HOb4.out.below ((Below.refl _ _).alloc (Nat.le_refl _) _)).below hb)
  have HOd5 := Lib.hid ((HOd4.out.below ((Below.refl _ _).alloc (Nat.le_refl _) _)).below hb)
  have Kl := (HKl4.out.alloc _).below hb
  have Kb := (HKb4.out.alloc _).below hb
  have Kd := (HKd4.out.alloc _).below hb
  have Km := (BlkL.new _ [.int .i64 r0, .slice none 0 0] 74).below hb
  try simp only [World.size_alloc] at Km
  have HB5 := Lib.hid ((HB4.out.alloc (by have := HB4.out.size; simp; omega) _).trans (hb.mono (by have := HB4.out.size; simp <;> omega)))
  clear hb
  have HKl5 := Lib.hid Kl
  have HKb5 := Lib.hid Kb
  have HKd5 := Lib.hid Kd
  have HKm5 := Lib.hid Km
  clear Kl Kb Kd Km
  go_wp2_with fail
  with_reducible refine (HA.out _).mono ?_
  rintro e w6 ⟨rfl, hb⟩
  have HOa6 := Lib.hid ((HOa5.out.below ((Below.refl _ _).alloc (Nat.le_refl _) _)).below hb)
  have HOb6 := Lib.hid ((HOb5.out.below ((Below.refl _ _).alloc (Nat.le_refl _) _)).below hb)
  have HOd6 := Lib.hid ((HOd5.out.below ((Below.refl _ _).alloc (Nat.le_refl _) _)).below hb)
  have Kl := (HKl5.out.alloc _).below hb
  have Kb := (HKb5.out.alloc _).below hb
  have Kd := (HKd5.out.alloc _).below hb
  have Km := (HKm5.out.alloc _).below hb
  have Ko := (BlkL.new _ [.int .i64 r0, .slice none 0 0] 73).below hb
  try simp only [World.size_alloc] at Ko
  have HB6 := Lib.hid ((HB5.out.alloc (by have := HB5.out.size; simp; omega) _).trans (hb.mono (by have := HB5.out.size; simp <;> omega)))
  clear hb
  have cb0 := Kb.cell 0 _ rfl
  have cb1 := Kb.cell 1 _ rfl
  have zb := Kb.lt
  have cd0 := Kd.cell 0 _ rfl
  have cd1 := Kd.cell 1 _ rfl
  have zd := Kd.lt
  have HKl6 := Lib.hid Kl
  have HKb6 := Lib.hid Kb
  have HKd6 := Lib.hid Kd
  have HKm6 := Lib.hid Km
  have HKo6 := Lib.hid Ko
  clear Kl Kb Kd Km Ko
  go_wp2_with fail
  with_reducible refine (same6_yes _ _ _ Ab Ad (n + 1) cb (n + 1) cd _ _ p rfl HOb6.out.arg HOd6.out.arg (Nat.le_refl _) (Nat.le_refl _)).mono ?_
  rintro e w7 ⟨rfl, hb⟩
  have HOa7 := Lib.hid (HOa6.out.below hb)
  have HOb7 := Lib.hid (HOb6.out.below hb)
  have HOd7 := Lib.hid (HOd6.out.below hb)
  have Kl := HKl6.out.below hb
  have Kb := HKb6.out.below hb
  have Kd := HKd6.out.below hb
  have Km := HKm6.out.below hb
  have Ko := HKo6.out.below hb
  have HB7 := Lib.hid (HB6.out.trans (hb.mono (by have := HB6.out.size; simp <;> omega)))
  clear hb cb0 cb1 zb cd0 cd1 zd
  have cm0 := Km.cell 0 _ rfl
  have cm1 := Km.cell 1 _ rfl
  have zm := Km.lt
  have co0 := Ko.cell 0 _ rfl
  have co1 := Ko.cell 1 _ rfl
  have zo := Ko.lt
  have HKl7 := Lib.hid Kl
  have HKb7 := Lib.hid Kb
  have HKd7 := Lib.hid Kd
  have HKm7 := Lib.hid Km
  have HKo7 := Lib.hid Ko
  clear Kl Kb Kd Km Ko
  go_wp2_with fail
  with_reducible refine (same6_yes _ 0 0 none none 0 0 0 0 [] [] r0 rfl (ArgI.nil _ _) (ArgI.nil _ _) (Nat.zero_le _) (Nat.zero_le _)).mono ?_
  rintro e w8 ⟨rfl, hb⟩
  have HOa8 := Lib.hid (HOa7.out.below hb)
  have HOb8 := Lib.hid (HOb7.out.below hb)
  have HOd8 := Lib.hid (HOd7.out.below hb)
  have Kl := HKl7.out.below hb
  have Kb := HKb7.out.below hb
  have Kd := HKd7.out.below hb
  have Km := HKm7.out.below hb
  have Ko := HKo7.out.below hb
  have HB8 := Lib.hid (HB7.out.trans (hb.mono (by have := HB7.out.size; simp <;> omega)))
  clear hb cm0 cm1 zm co0 co1 zo
  have cl0 := Kl.cell 0 _ rfl
  have cl1 := Kl.cell 1 _ rfl
  have zl := Kl.lt
  have HKl8 := Lib.hid Kl
  have HKb8 := Lib.hid Kb
  have HKd8 := Lib.hid Kd
  have HKm8 := Lib.hid Km
  have HKo8 := Lib.hid Ko
  clear Kl Kb Kd Km Ko
  go_wp2_with fail
  with_reducible refine (kept6_any _ _ _ A Aa n c ca xs p HOa8.out.arg (HARG.out.below HB8.out) (Nat.le_refl _) HB8.out.size).mono ?_
  rintro e w9 ⟨rfl, hb⟩
  have HOa9 := Lib.hid (HOa8.out.below hb)
  have HOb9 := Lib.hid (HOb8.out.below hb)
  have HOd9 := Lib.hid (HOd8.out.below hb)
  have Kl := HKl8.out.below hb
  have Kb := HKb8.out.below hb
  have Kd := HKd8.out.below hb
  have Km := HKm8.out.below hb
  have Ko := HKo8.out.below hb
  have HB9 := Lib.hid (HB8.out.trans (hb.mono (by have := HB8.out.size; simp <;> omega)))
  clear hb cl0 cl1 zl
  have HKl9 := Lib.hid Kl
  have HKb9 := Lib.hid Kb
  have HKd9 := Lib.hid Kd
  have HKm9 := Lib.hid Km
  have HKo9 := Lib.hid Ko
  clear Kl Kb Kd Km Ko
  go_wp2
  go_ret
  exact ⟨rfl, HB9.out⟩

theorem permTakes_row (A : Option Addr) (n c : Nat) (xs : List Int) (p x r : Int) (w : World) (h : ArgI w w.heap.size A n c xs) (hc : c ≤ 17592186043904)
    (_wx : (Lit.int .i64 x).wf = true) (_wr : (Lit.int .i64 r).wf = true) :
    Calls Try.prog 11 #[.agg #[.int .i64 p, .slice A n c], .int .i64 x, .int .i64 r] w (ValEnd w (.bool true)) := by
  have HA := Lib.hid awake6_any
  have hl := Lib.hid h.len
  have hn : n ≤ 17592186044000 := by have := h.le; omega
  have hN : ∃ r0 re, (∀ w, Calls Try.prog 35 #[.int .i64 r] w (ValEnd w (.tuple #[.agg #[.int .i64 r0, .slice none 0 0], .int .i64 re]))) ∧ (∀ w, Calls Try.prog 36 #[.int .i64 r] w (ValEnd w (.tuple #[.agg #[.int .i64 r0, .slice none 0 0], .int .i64 re]))) := by
    by_cases hr : 1 ≤ r ∧ r ≤ 64
    · refine ⟨r, 0, fun w => ?_, fun w => ?_⟩
      · have := permNew_any w r; rwa [if_pos hr] at this
      · have := docNew6_any w r; rwa [if_pos hr] at this
    · refine ⟨0, 1, fun w => ?_, fun w => ?_⟩
      · have := permNew_any w r; rwa [if_neg hr] at this
      · have := docNew6_any w r; rwa [if_neg hr] at this
  obtain ⟨r0, re, h1, h2⟩ := hN
  by_cases h3 : takeE p xs x = 0
  · exact permTakes_2 w A n c xs p x r r0 re (Lib.hid h) hn HA hl (Lib.hid h1) (Lib.hid h2) (Lib.hid h3)
  · exact permTakes_1 w A n c xs p x r r0 re _ (Lib.hid h) hn HA hl (Lib.hid h1) (Lib.hid h2) (Lib.hid rfl) h3
end Go.Proofs.Ythigbhhhhebjeaa
