/- The law PermGives: its walk. -/
import Derived.Test.YthigbhhhhebjeaaPermU
namespace Go.Proofs.Ythigbhhhhebjeaa
open Go.RowKit
set_option maxRecDepth 100000
set_option linter.unusedVariables false

theorem docGive_err6 {w : World} {B n c : Nat} {A : Option Addr} {xs : List Int} {p t er : Int} (h : ArgI w B A n c xs) (hB : B ≤ w.heap.size) (ht : giveE p xs t = er) (hne : er ≠ 0) :
    Calls Try.prog 41 #[.agg #[.int .i64 p, .slice A n c], .int .i64 t] w (ValEnd w (.tuple #[.agg #[.int .i64 0, .slice none 0 0], .int .i64 er])) := by
  subst ht; exact docGive_bad h hB hne
theorem permGive_err6 {w : World} {B n c : Nat} {A : Option Addr} {xs : List Int} {p t er : Int} (h : ArgI w B A n c xs) (hB : B ≤ w.heap.size) (ht : giveE p xs t = er) (hne : er ≠ 0) :
    Calls Try.prog 40 #[.agg #[.int .i64 p, .slice A n c], .int .i64 t] w (ValEnd w (.tuple #[.agg #[.int .i64 0, .slice none 0 0], .int .i64 er])) := by
  subst ht; exact permGive_bad h hB hne
theorem docGive_ok6 {w : World} {B n c : Nat} {A : Option Addr} {xs : List Int} {p t : Int} {ys : List Int} {N : Nat} (h : ArgI w B A n c xs) (hB : B ≤ w.heap.size) (ht : giveE p xs t = 0) (hy : dropV xs t = ys) (hN : ys.length = N) :
    Calls Try.prog 41 #[.agg #[.int .i64 p, .slice A n c], .int .i64 t] w fun e w' => ∃ A' c', e = .returned (.tuple #[.agg #[.int .i64 p, .slice A' N c'], .int .i64 0]) ∧ OwnI w' w.heap.size A' N c' ys ∧ Below w.heap.size w w' := by
  subst hy hN; exact docGive_good h hB ht
theorem permHas6 {w : World} {B n c : Nat} {A : Option Addr} {xs : List Int} {p t sv : Int} {r : Bool} (h : ArgI w B A n c xs) (hB : B ≤ w.heap.size) (hr : (semB p xs && hasV xs t) = r) (hs : semV p xs = sv) :
    Calls Try.prog 42 #[.agg #[.int .i64 p, .slice A n c], .int .i64 t] w (ValEnd w (.tuple #[.bool r, .int .i64 sv])) := by
  subst hr hs; exact permHas_any w B A n c xs p t h hB
theorem permFree6 {w : World} {B n c : Nat} {A : Option Addr} {xs : List Int} {p sv fr : Int} (h : ArgI w B A n c xs) (hB : B ≤ w.heap.size) (hr : (if semB p xs = true then p - n else 0) = fr) (hs : semV p xs = sv) :
    Calls Try.prog 43 #[.agg #[.int .i64 p, .slice A n c]] w (ValEnd w (.tuple #[.int .i64 fr, .int .i64 sv])) := by
  subst hr hs; exact permFree_any w B A n c xs p h hB
theorem refCheck6 {w : World} {B n c : Nat} {A : Option Addr} {xs : List Int} {p sv : Int} (h : ArgI w B A n c xs) (hB : B ≤ w.heap.size) (hs : semV p xs = sv) :
    Calls Try.prog 44 #[.agg #[.int .i64 p, .slice A n c]] w (ValEnd w (.int .i64 sv)) := by
  subst hs; exact refCheck_any w B A n c xs p h hB
theorem permCheck6 {w : World} {B n c : Nat} {A : Option Addr} {xs : List Int} {p sv : Int} (h : ArgI w B A n c xs) (hB : B ≤ w.heap.size) (hs : semV p xs = sv) :
    Calls Try.prog 45 #[.agg #[.int .i64 p, .slice A n c]] w (ValEnd w (.int .i64 sv)) := by
  subst hs; exact permCheck_any w B A n c xs p h hB
theorem refHas6 {w : World} {B n c : Nat} {A : Option Addr} {xs : List Int} {t : Int} {r : Bool} (h : ArgI w B A n c xs) (hr : hasV xs t = r) :
    Calls Try.prog 46 #[.slice A n c, .int .i64 t] w (ValEnd w (.bool r)) := by
  subst hr
  exact (refHas_any w B A n c xs t h).mono fun e w' ⟨h1, h2⟩ => ⟨h1, by subst h2; exact Below.refl _ _⟩

set_option maxHeartbeats 3200000 in
theorem permGives_1 (w : World) (A : Option Addr) (n c : Nat) (xs : List Int) (p x er : Int)
    (HARG : Hid (ArgI w w.heap.size A n c xs))
    (hn : n ≤ 17592186044000)
    (HA : Hid (∀ w, Calls Try.prog 37 #[] w (ValEnd w (.bool true))))
    (hl : Hid (xs.length = n))
    (TS : Hid (semV p xs = 3))
    (TB : Hid ((semB p xs && hasV xs x) = false))
    (TF : Hid ((if semB p xs = true then p - n else 0) = 0))
    (TX : Hid (giveE p xs x = er))
    (hne : er ≠ 0) :
    Calls Try.prog 12 #[.agg #[.int .i64 p, .slice A n c], .int .i64 x] w (ValEnd w (.bool true)) := by
  go_enter Try.func12, Try.ntmps12
  go_wp2_with fail
  with_reducible refine (of6_any _ w.heap.size A n c xs p (HARG.out.below ((Below.refl _ w).alloc (Nat.le_refl _) _)) (by simp) hn).mono ?_
  rintro e w1 ⟨Aa, ca, rfl, ho, hb⟩
  have HOa1 := Lib.hid ho
  clear ho
  have Kl := (BlkL.new _ [.int .i64 p, .slice A n c] 73).below hb
  try simp only [World.size_alloc] at Kl
  have HB1 := Lib.hid (((Below.refl w.heap.size w).alloc (by simp <;> omega) _).trans (hb.mono (by simp <;> omega)))
  clear hb
  have cl0 := Kl.cell 0 _ rfl
  have cl1 := Kl.cell 1 _ rfl
  have zl := Kl.lt
  have HKl1 := Lib.hid Kl
  clear Kl
  go_wp2_with fail
  with_reducible refine (permGive_err6 (t := x) (own_head (n := n) (HOa1.out.below ((Below.refl _ _).alloc (Nat.le_refl _) _)) hl.out (by omega)) (Nat.le_refl _) TX.out hne).mono ?_
  rintro e w2 ⟨rfl, hb⟩
  have HOa2 := Lib.hid ((HOa1.out.below ((Below.refl _ _).alloc (Nat.le_refl _) _)).below hb)
  have Kl := (HKl1.out.alloc _).below hb
  have Ka := (BlkL.new _ [.int .i64 p, .slice Aa n ca] 74).below hb
  try simp only [World.size_alloc] at Ka
  have HB2 := Lib.hid ((HB1.out.alloc (by have := HB1.out.size; simp; omega) _).trans (hb.mono (by have := HB1.out.size; simp <;> omega)))
  clear hb cl0 cl1 zl
  have cl0 := Kl.cell 0 _ rfl
  have cl1 := Kl.cell 1 _ rfl
  have zl := Kl.lt
  have HKl2 := Lib.hid Kl
  have HKa2 := Lib.hid Ka
  clear Kl Ka
  go_wp2_with fail
  with_reducible refine (docGive_err6 (t := x) (HARG.out.below (HB2.out.alloc HB2.out.size _)) (by have := HB2.out.size; simp; omega) TX.out hne).mono ?_
  rintro e w3 ⟨rfl, hb⟩
  have HOa3 := Lib.hid ((HOa2.out.below ((Below.refl _ _).alloc (Nat.le_refl _) _)).below hb)
  have Kl := (HKl2.out.alloc _).below hb
  have Ka := (HKa2.out.alloc _).below hb
  have Kb := (BlkL.new _ [.int .i64 0, .slice none 0 0] 74).below hb
  try simp only [World.size_alloc] at Kb
  have HB3 := Lib.hid ((HB2.out.alloc (by have := HB2.out.size; simp; omega) _).trans (hb.mono (by have := HB2.out.size; simp <;> omega)))
  clear hb cl0 cl1 zl
  have ca0 := Ka.cell 0 _ rfl
  have ca1 := Ka.cell 1 _ rfl
  have za := Ka.lt
  have HKl3 := Lib.hid Kl
  have HKa3 := Lib.hid Ka
  have HKb3 := Lib.hid Kb
  clear Kl Ka Kb
  go_wp2_with fail
  with_reducible refine (permHas6 (t := x) (own_head (n := n) (HOa3.out.below ((Below.refl _ _).alloc (Nat.le_refl _) _)) hl.out (by omega)) (Nat.le_refl _) TB.out TS.out).mono ?_
  rintro e w4 ⟨rfl, hb⟩
  have HOa4 := Lib.hid ((HOa3.out.below ((Below.refl _ _).alloc (Nat.le_refl _) _)).below hb)
  have Kl := (HKl3.out.alloc _).below hb
  have Ka := (HKa3.out.alloc _).below hb
  have Kb := (HKb3.out.alloc _).below hb
  have Kd := (BlkL.new _ [.int .i64 0, .slice none 0 0] 73).below hb
  try simp only [World.size_alloc] at Kd
  have HB4 := Lib.hid ((HB3.out.alloc (by have := HB3.out.size; simp; omega) _).trans (hb.mono (by have := HB3.out.size; simp <;> omega)))
  clear hb ca0 ca1 za
  have ca0 := Ka.cell 0 _ rfl
  have ca1 := Ka.cell 1 _ rfl
  have za := Ka.lt
  have HKl4 := Lib.hid Kl
  have HKa4 := Lib.hid Ka
  have HKb4 := Lib.hid Kb
  have HKd4 := Lib.hid Kd
  clear Kl Ka Kb Kd
  go_wp2_with fail
  with_reducible refine (permFree6 (own_head (n := n) HOa4.out hl.out (by omega)) (Nat.le_refl _) TF.out TS.out).mono ?_
  rintro e w5 ⟨rfl, hb⟩
  have HOa5 := Lib.hid (HOa4.out.below hb)
  have Kl := HKl4.out.below hb
  have Ka := HKa4.out.below hb
  have Kb := HKb4.out.below hb
  have Kd := HKd4.out.below hb
  have HB5 := Lib.hid (HB4.out.trans (hb.mono (by have := HB4.out.size; simp <;> omega)))
  clear hb ca0 ca1 za
  have cl0 := Kl.cell 0 _ rfl
  have cl1 := Kl.cell 1 _ rfl
  have zl := Kl.lt
  have HKl5 := Lib.hid Kl
  have HKa5 := Lib.hid Ka
  have HKb5 := Lib.hid Kb
  have HKd5 := Lib.hid Kd
  clear Kl Ka Kb Kd
  go_wp2_with fail
  with_reducible refine (refCheck6 (HARG.out.below HB5.out) HB5.out.size TS.out).mono ?_
  rintro e w6 ⟨rfl, hb⟩
  have HOa6 := Lib.hid (HOa5.out.below hb)
  have Kl := HKl5.out.below hb
  have Ka := HKa5.out.below hb
  have Kb := HKb5.out.below hb
  have Kd := HKd5.out.below hb
  have HB6 := Lib.hid (HB5.out.trans (hb.mono (by have := HB5.out.size; simp <;> omega)))
  clear hb cl0 cl1 zl
  have HKl6 := Lib.hid Kl
  have HKa6 := Lib.hid Ka
  have HKb6 := Lib.hid Kb
  have HKd6 := Lib.hid Kd
  clear Kl Ka Kb Kd
  go_wp2_with fail
  with_reducible refine (HA.out _).mono ?_
  rintro e w7 ⟨rfl, hb⟩
  have HOa7 := Lib.hid (HOa6.out.below hb)
  have Kl := HKl6.out.below hb
  have Ka := HKa6.out.below hb
  have Kb := HKb6.out.below hb
  have Kd := HKd6.out.below hb
  have HB7 := Lib.hid (HB6.out.trans (hb.mono (by have := HB6.out.size; simp <;> omega)))
  clear hb
  have cb0 := Kb.cell 0 _ rfl
  have cb1 := Kb.cell 1 _ rfl
  have zb := Kb.lt
  have cd0 := Kd.cell 0 _ rfl
  have cd1 := Kd.cell 1 _ rfl
  have zd := Kd.lt
  have HKl7 := Lib.hid Kl
  have HKa7 := Lib.hid Ka
  have HKb7 := Lib.hid Kb
  have HKd7 := Lib.hid Kd
  clear Kl Ka Kb Kd
  go_wp2_with fail
  with_reducible refine (same6_yes _ 0 0 none none 0 0 0 0 [] [] 0 rfl (ArgI.nil _ _) (ArgI.nil _ _) (Nat.zero_le _) (Nat.zero_le _)).mono ?_
  rintro e w8 ⟨rfl, hb⟩
  have HOa8 := Lib.hid (HOa7.out.below hb)
  have Kl := HKl7.out.below hb
  have Ka := HKa7.out.below hb
  have Kb := HKb7.out.below hb
  have Kd := HKd7.out.below hb
  have HB8 := Lib.hid (HB7.out.trans (hb.mono (by have := HB7.out.size; simp <;> omega)))
  clear hb cb0 cb1 zb cd0 cd1 zd
  have ca0 := Ka.cell 0 _ rfl
  have ca1 := Ka.cell 1 _ rfl
  have za := Ka.lt
  have HKl8 := Lib.hid Kl
  have HKa8 := Lib.hid Ka
  have HKb8 := Lib.hid Kb
  have HKd8 := Lib.hid Kd
  clear Kl Ka Kb Kd
  go_wp2_with fail
  with_reducible refine (permCheck6 (own_head (n := n) HOa8.out hl.out (by omega)) (Nat.le_refl _) TS.out).mono ?_
  rintro e w9 ⟨rfl, hb⟩
  have HOa9 := Lib.hid (HOa8.out.below hb)
  have Kl := HKl8.out.below hb
  have Ka := HKa8.out.below hb
  have Kb := HKb8.out.below hb
  have Kd := HKd8.out.below hb
  have HB9 := Lib.hid (HB8.out.trans (hb.mono (by have := HB8.out.size; simp <;> omega)))
  clear hb ca0 ca1 za
  have cl0 := Kl.cell 0 _ rfl
  have cl1 := Kl.cell 1 _ rfl
  have zl := Kl.lt
  have HKl9 := Lib.hid Kl
  have HKa9 := Lib.hid Ka
  have HKb9 := Lib.hid Kb
  have HKd9 := Lib.hid Kd
  clear Kl Ka Kb Kd
  go_wp2_with fail
  with_reducible refine (kept6_any _ _ _ A Aa n c ca xs p HOa9.out.arg (HARG.out.below HB9.out) (Nat.le_refl _) HB9.out.size).mono ?_
  rintro e w10 ⟨rfl, hb⟩
  have HOa10 := Lib.hid (HOa9.out.below hb)
  have Kl := HKl9.out.below hb
  have Ka := HKa9.out.below hb
  have Kb := HKb9.out.below hb
  have Kd := HKd9.out.below hb
  have HB10 := Lib.hid (HB9.out.trans (hb.mono (by have := HB9.out.size; simp <;> omega)))
  clear hb cl0 cl1 zl
  have cl0 := Kl.cell 0 _ rfl
  have cl1 := Kl.cell 1 _ rfl
  have zl := Kl.lt
  have HKl10 := Lib.hid Kl
  have HKa10 := Lib.hid Ka
  have HKb10 := Lib.hid Kb
  have HKd10 := Lib.hid Kd
  clear Kl Ka Kb Kd
  go_wp2
  go_ret
  exact ⟨rfl, HB10.out⟩

set_option maxHeartbeats 3200000 in
theorem permGives_2 (w : World) (A : Option Addr) (n c : Nat) (xs : List Int) (p x er fr : Int)
    (HARG : Hid (ArgI w w.heap.size A n c xs))
    (hn : n ≤ 17592186044000)
    (HA : Hid (∀ w, Calls Try.prog 37 #[] w (ValEnd w (.bool true))))
    (hl : Hid (xs.length = n))
    (TS : Hid (semV p xs = 0))
    (TB : Hid ((semB p xs && hasV xs x) = false))
    (TF : Hid ((if semB p xs = true then p - n else 0) = fr))
    (TX : Hid (giveE p xs x = er))
    (hne : er ≠ 0)
    (TH : Hid (hasV xs x = false))
    (ew : IntKind.i64.wrap (p - (n : Int)) = fr)
    (hle : n ≤ c) (hcap : c ≤ 2 ^ 63 - 1) :
    Calls Try.prog 12 #[.agg #[.int .i64 p, .slice A n c], .int .i64 x] w (ValEnd w (.bool true)) := by
  go_enter Try.func12, Try.ntmps12
  go_wp2_with fail
  with_reducible refine (of6_any _ w.heap.size A n c xs p (HARG.out.below ((Below.refl _ w).alloc (Nat.le_refl _) _)) (by simp) hn).mono ?_
  rintro e w1 ⟨Aa, ca, rfl, ho, hb⟩
  have HOa1 := Lib.hid ho
  clear ho
  have Kl := (BlkL.new _ [.int .i64 p, .slice A n c] 73).below hb
  try simp only [World.size_alloc] at Kl
  have HB1 := Lib.hid (((Below.refl w.heap.size w).alloc (by simp <;> omega) _).trans (hb.mono (by simp <;> omega)))
  clear hb
  have cl0 := Kl.cell 0 _ rfl
  have cl1 := Kl.cell 1 _ rfl
  have zl := Kl.lt
  have HKl1 := Lib.hid Kl
  clear Kl
  go_wp2_with fail
  with_reducible refine (permGive_err6 (t := x) (own_head (n := n) (HOa1.out.below ((Below.refl _ _).alloc (Nat.le_refl _) _)) hl.out (by omega)) (Nat.le_refl _) TX.out hne).mono ?_
  rintro e w2 ⟨rfl, hb⟩
  have HOa2 := Lib.hid ((HOa1.out.below ((Below.refl _ _).alloc (Nat.le_refl _) _)).below hb)
  have Kl := (HKl1.out.alloc _).below hb
  have Ka := (BlkL.new _ [.int .i64 p, .slice Aa n ca] 74).below hb
  try simp only [World.size_alloc] at Ka
  have HB2 := Lib.hid ((HB1.out.alloc (by have := HB1.out.size; simp; omega) _).trans (hb.mono (by have := HB1.out.size; simp <;> omega)))
  clear hb cl0 cl1 zl
  have cl0 := Kl.cell 0 _ rfl
  have cl1 := Kl.cell 1 _ rfl
  have zl := Kl.lt
  have HKl2 := Lib.hid Kl
  have HKa2 := Lib.hid Ka
  clear Kl Ka
  go_wp2_with fail
  with_reducible refine (docGive_err6 (t := x) (HARG.out.below (HB2.out.alloc HB2.out.size _)) (by have := HB2.out.size; simp; omega) TX.out hne).mono ?_
  rintro e w3 ⟨rfl, hb⟩
  have HOa3 := Lib.hid ((HOa2.out.below ((Below.refl _ _).alloc (Nat.le_refl _) _)).below hb)
  have Kl := (HKl2.out.alloc _).below hb
  have Ka := (HKa2.out.alloc _).below hb
  have Kb := (BlkL.new _ [.int .i64 0, .slice none 0 0] 74).below hb
  try simp only [World.size_alloc] at Kb
  have HB3 := Lib.hid ((HB2.out.alloc (by have := HB2.out.size; simp; omega) _).trans (hb.mono (by have := HB2.out.size; simp <;> omega)))
  clear hb cl0 cl1 zl
  have ca0 := Ka.cell 0 _ rfl
  have ca1 := Ka.cell 1 _ rfl
  have za := Ka.lt
  have HKl3 := Lib.hid Kl
  have HKa3 := Lib.hid Ka
  have HKb3 := Lib.hid Kb
  clear Kl Ka Kb
  go_wp2_with fail
  with_reducible refine (permHas6 (t := x) (own_head (n := n) (HOa3.out.below ((Below.refl _ _).alloc (Nat.le_refl _) _)) hl.out (by omega)) (Nat.le_refl _) TB.out TS.out).mono ?_
  rintro e w4 ⟨rfl, hb⟩
  have HOa4 := Lib.hid ((HOa3.out.below ((Below.refl _ _).alloc (Nat.le_refl _) _)).below hb)
  have Kl := (HKl3.out.alloc _).below hb
  have Ka := (HKa3.out.alloc _).below hb
  have Kb := (HKb3.out.alloc _).below hb
  have Kd := (BlkL.new _ [.int .i64 0, .slice none 0 0] 73).below hb
  try simp only [World.size_alloc] at Kd
  have HB4 := Lib.hid ((HB3.out.alloc (by have := HB3.out.size; simp; omega) _).trans (hb.mono (by have := HB3.out.size; simp <;> omega)))
  clear hb ca0 ca1 za
  have ca0 := Ka.cell 0 _ rfl
  have ca1 := Ka.cell 1 _ rfl
  have za := Ka.lt
  have HKl4 := Lib.hid Kl
  have HKa4 := Lib.hid Ka
  have HKb4 := Lib.hid Kb
  have HKd4 := Lib.hid Kd
  clear Kl Ka Kb Kd
  go_wp2_with fail
  with_reducible refine (permFree6 (own_head (n := n) HOa4.out hl.out (by omega)) (Nat.le_refl _) TF.out TS.out).mono ?_
  rintro e w5 ⟨rfl, hb⟩
  have HOa5 := Lib.hid (HOa4.out.below hb)
  have Kl := HKl4.out.below hb
  have Ka := HKa4.out.below hb
  have Kb := HKb4.out.below hb
  have Kd := HKd4.out.below hb
  have HB5 := Lib.hid (HB4.out.trans (hb.mono (by have := HB4.out.size; simp <;> omega)))
  clear hb ca0 ca1 za
  have cl0 := Kl.cell 0 _ rfl
  have cl1 := Kl.cell 1 _ rfl
  have zl := Kl.lt
  have HKl5 := Lib.hid Kl
  have HKa5 := Lib.hid Ka
  have HKb5 := Lib.hid Kb
  have HKd5 := Lib.hid Kd
  clear Kl Ka Kb Kd
  go_wp2_with fail
  with_reducible refine (refCheck6 (HARG.out.below HB5.out) HB5.out.size TS.out).mono ?_
  rintro e w6 ⟨rfl, hb⟩
  have HOa6 := Lib.hid (HOa5.out.below hb)
  have Kl := HKl5.out.below hb
  have Ka := HKa5.out.below hb
  have Kb := HKb5.out.below hb
  have Kd := HKd5.out.below hb
  have HB6 := Lib.hid (HB5.out.trans (hb.mono (by have := HB5.out.size; simp <;> omega)))
  clear hb cl0 cl1 zl
  have HKl6 := Lib.hid Kl
  have HKa6 := Lib.hid Ka
  have HKb6 := Lib.hid Kb
  have HKd6 := Lib.hid Kd
  clear Kl Ka Kb Kd
  go_wp2_with fail
  with_reducible refine (HA.out _).mono ?_
  rintro e w7 ⟨rfl, hb⟩
  have HOa7 := Lib.hid (HOa6.out.below hb)
  have Kl := HKl6.out.below hb
  have Ka := HKa6.out.below hb
  have Kb := HKb6.out.below hb
  have Kd := HKd6.out.below hb
  have HB7 := Lib.hid (HB6.out.trans (hb.mono (by have := HB6.out.size; simp <;> omega)))
  clear hb
  have cb0 := Kb.cell 0 _ rfl
  have cb1 := Kb.cell 1 _ rfl
  have zb := Kb.lt
  have cd0 := Kd.cell 0 _ rfl
  have cd1 := Kd.cell 1 _ rfl
  have zd := Kd.lt
  have HKl7 := Lib.hid Kl
  have HKa7 := Lib.hid Ka
  have HKb7 := Lib.hid Kb
  have HKd7 := Lib.hid Kd
  clear Kl Ka Kb Kd
  go_wp2_with fail
  with_reducible refine (same6_yes _ 0 0 none none 0 0 0 0 [] [] 0 rfl (ArgI.nil _ _) (ArgI.nil _ _) (Nat.zero_le _) (Nat.zero_le _)).mono ?_
  rintro e w8 ⟨rfl, hb⟩
  have HOa8 := Lib.hid (HOa7.out.below hb)
  have Kl := HKl7.out.below hb
  have Ka := HKa7.out.below hb
  have Kb := HKb7.out.below hb
  have Kd := HKd7.out.below hb
  have HB8 := Lib.hid (HB7.out.trans (hb.mono (by have := HB7.out.size; simp <;> omega)))
  clear hb cb0 cb1 zb cd0 cd1 zd
  have ca0 := Ka.cell 0 _ rfl
  have ca1 := Ka.cell 1 _ rfl
  have za := Ka.lt
  have HKl8 := Lib.hid Kl
  have HKa8 := Lib.hid Ka
  have HKb8 := Lib.hid Kb
  have HKd8 := Lib.hid Kd
  clear Kl Ka Kb Kd
  go_wp2_with fail
  with_reducible refine (permCheck6 (own_head (n := n) HOa8.out hl.out (by omega)) (Nat.le_refl _) TS.out).mono ?_
  rintro e w9 ⟨rfl, hb⟩
  have HOa9 := Lib.hid (HOa8.out.below hb)
  have Kl := HKl8.out.below hb
  have Ka := HKa8.out.below hb
  have Kb := HKb8.out.below hb
  have Kd := HKd8.out.below hb
  have HB9 := Lib.hid (HB8.out.trans (hb.mono (by have := HB8.out.size; simp <;> omega)))
  clear hb ca0 ca1 za
  have cl0 := Kl.cell 0 _ rfl
  have cl1 := Kl.cell 1 _ rfl
  have zl := Kl.lt
  have HKl9 := Lib.hid Kl
  have HKa9 := Lib.hid Ka
  have HKb9 := Lib.hid Kb
  have HKd9 := Lib.hid Kd
  clear Kl Ka Kb Kd
  go_wp2_with fail
  with_reducible refine (kept6_any _ _ _ A Aa n c ca xs p HOa9.out.arg (HARG.out.below HB9.out) (Nat.le_refl _) HB9.out.size).mono ?_
  rintro e w10 ⟨rfl, hb⟩
  have HOa10 := Lib.hid (HOa9.out.below hb)
  have Kl := HKl9.out.below hb
  have Ka := HKa9.out.below hb
  have Kb := HKb9.out.below hb
  have Kd := HKd9.out.below hb
  have HB10 := Lib.hid (HB9.out.trans (hb.mono (by have := HB9.out.size; simp <;> omega)))
  clear hb cl0 cl1 zl
  have cl0 := Kl.cell 0 _ rfl
  have cl1 := Kl.cell 1 _ rfl
  have zl := Kl.lt
  have HKl10 := Lib.hid Kl
  have HKa10 := Lib.hid Ka
  have HKb10 := Lib.hid Kb
  have HKd10 := Lib.hid Kd
  clear Kl Ka Kb Kd
  go_wp2_with fail
  with_reducible refine (refHas6 (t := x) (HARG.out.below HB10.out) TH.out).mono ?_
  rintro e w11 ⟨rfl, hb⟩
  have HOa11 := Lib.hid (HOa10.out.below hb)
  have Kl := HKl10.out.below hb
  have Ka := HKa10.out.below hb
  have Kb := HKb10.out.below hb
  have Kd := HKd10.out.below hb
  have HB11 := Lib.hid (HB10.out.trans (hb.mono (by have := HB10.out.size; simp <;> omega)))
  clear hb cl0 cl1 zl
  have cl0 := Kl.cell 0 _ rfl
  have cl1 := Kl.cell 1 _ rfl
  have zl := Kl.lt
  have HKl11 := Lib.hid Kl
  have HKa11 := Lib.hid Ka
  have HKb11 := Lib.hid Kb
  have HKd11 := Lib.hid Kd
  clear Kl Ka Kb Kd
  go_wp2
  go_ret
  exact ⟨rfl, HB11.out⟩

set_option maxHeartbeats 3200000 in
theorem permGives_3 (w : World) (A : Option Addr) (n c : Nat) (xs : List Int) (p x fr : Int) (ys : List Int) (m N : Nat)
    (HARG : Hid (ArgI w w.heap.size A n c xs))
    (hn : n ≤ 17592186044000)
    (HA : Hid (∀ w, Calls Try.prog 37 #[] w (ValEnd w (.bool true))))
    (hl : Hid (xs.length = n))
    (TS : Hid (semV p xs = 0))
    (TB : Hid ((semB p xs && hasV xs x) = true))
    (TF : Hid ((if semB p xs = true then p - n else 0) = fr))
    (TX : Hid (giveE p xs x = 0))
    (T3 : Hid (semB p xs = true))
    (T4 : Hid (hasV xs x = true))
    (TD : Hid (dropV xs x = ys))
    (TM : Hid (n - 1 = m))
    (TN : Hid (ys.length = N))
    (TH : Hid (hasV xs x = true))
    (ew : IntKind.i64.wrap (p - (n : Int)) = fr)
    (hle : n ≤ c) (hcap : c ≤ 2 ^ 63 - 1) :
    Calls Try.prog 12 #[.agg #[.int .i64 p, .slice A n c], .int .i64 x] w (ValEnd w (.bool true)) := by
  go_enter Try.func12, Try.ntmps12
  go_wp2_with fail
  with_reducible refine (of6_any _ w.heap.size A n c xs p (HARG.out.below ((Below.refl _ w).alloc (Nat.le_refl _) _)) (by simp) hn).mono ?_
  rintro e w1 ⟨Aa, ca, rfl, ho, hb⟩
  have HOa1 := Lib.hid ho
  clear ho
  have Kl := (BlkL.new _ [.int .i64 p, .slice A n c] 73).below hb
  try simp only [World.size_alloc] at Kl
  have HB1 := Lib.hid (((Below.refl w.heap.size w).alloc (by simp <;> omega) _).trans (hb.mono (by simp <;> omega)))
  clear hb
  have cl0 := Kl.cell 0 _ rfl
  have cl1 := Kl.cell 1 _ rfl
  have zl := Kl.lt
  have HKl1 := Lib.hid Kl
  clear Kl
  go_wp2_with fail
  with_reducible refine (give_ok6 (m := m) (t := x) (own_head (n := n) (HOa1.out.below ((Below.refl _ _).alloc (Nat.le_refl _) _)) hl.out (by omega)) (Nat.le_refl _) HOa1.out.shp T3.out T4.out TD.out TM.out).mono ?_
  rintro e w2 ⟨Ab, cb, rfl, ho, hb⟩
  have HOa2 := Lib.hid ((HOa1.out.below ((Below.refl _ _).alloc (Nat.le_refl _) _)).below hb)
  have HOb2 := Lib.hid ho
  clear ho
  have Kl := (HKl1.out.alloc _).below hb
  have Ka := (BlkL.new _ [.int .i64 p, .slice Aa n ca] 74).below hb
  try simp only [World.size_alloc] at Ka
  have HB2 := Lib.hid ((HB1.out.alloc (by have := HB1.out.size; simp; omega) _).trans (hb.mono (by have := HB1.out.size; simp <;> omega)))
  clear hb cl0 cl1 zl
  have cl0 := Kl.cell 0 _ rfl
  have cl1 := Kl.cell 1 _ rfl
  have zl := Kl.lt
  have HKl2 := Lib.hid Kl
  have HKa2 := Lib.hid Ka
  clear Kl Ka
  go_wp2_with fail
  with_reducible refine (docGive_ok6 (t := x) (HARG.out.below (HB2.out.alloc HB2.out.size _)) (by have := HB2.out.size; simp; omega) TX.out TD.out TN.out).mono ?_
  rintro e w3 ⟨Ad, cd, rfl, ho, hb⟩
  have HOa3 := Lib.hid ((HOa2.out.below ((Below.refl _ _).alloc (Nat.le_refl _) _)).below hb)
  have HOb3 := Lib.hid ((HOb2.out.below ((Below.refl _ _).alloc (Nat.le_refl _) _)).below hb)
  have HOd3 := Lib.hid ho
  clear ho
  have Kl := (HKl2.out.alloc _).below hb
  have Ka := (HKa2.out.alloc _).below hb
  have Kb := (BlkL.new _ [.int .i64 p, .slice Ab m cb] 74).below hb
  try simp only [World.size_alloc] at Kb
  have HB3 := Lib.hid ((HB2.out.alloc (by have := HB2.out.size; simp; omega) _).trans (hb.mono (by have := HB2.out.size; simp <;> omega)))
  clear hb cl0 cl1 zl
  have ca0 := Ka.cell 0 _ rfl
  have ca1 := Ka.cell 1 _ rfl
  have za := Ka.lt
  have HKl3 := Lib.hid Kl
  have HKa3 := Lib.hid Ka
  have HKb3 := Lib.hid Kb
  clear Kl Ka Kb
  go_wp2_with fail
  with_reducible refine (permHas6 (t := x) (own_head (n := n) (HOa3.out.below ((Below.refl _ _).alloc (Nat.le_refl _) _)) hl.out (by omega)) (Nat.le_refl _) TB.out TS.out).mono ?_
  rintro e w4 ⟨rfl, hb⟩
  have HOa4 := Lib.hid ((HOa3.out.below ((Below.refl _ _).alloc (Nat.le_refl _) _)).below hb)
  have HOb4 := Lib.hid ((HOb3.out.below ((Below.refl _ _).alloc (Nat.le_refl _) _)).below hb)
  have HOd4 := Lib.hid ((HOd3.out.below ((Below.refl _ _).alloc (Nat.le_refl _) _)).below hb)
  have Kl := (HKl3.out.alloc _).below hb
  have Ka := (HKa3.out.alloc _).below hb
  have Kb := (HKb3.out.alloc _).below hb
  have Kd := (BlkL.new _ [.int .i64 p, .slice Ad N cd] 73).below hb
  try simp only [World.size_alloc] at Kd
  have HB4 := Lib.hid ((HB3.out.alloc (by have := HB3.out.size; simp; omega) _).trans (hb.mono (by have := HB3.out.size; simp <;> omega)))
  clear hb ca0 ca1 za
  have ca0 := Ka.cell 0 _ rfl
  have ca1 := Ka.cell 1 _ rfl
  have za := Ka.lt
  have HKl4 := Lib.hid Kl
  have HKa4 := Lib.hid Ka
  have HKb4 := Lib.hid Kb
  have HKd4 := Lib.hid Kd
  clear Kl Ka Kb Kd
  go_wp2_with fail
  with_reducible refine (permFree6 (own_head (n := n) HOa4.out hl.out (by omega)) (Nat.le_refl _) TF.out TS.out).mono ?_
  rintro e w5 ⟨rfl, hb⟩
  have HOa5 := Lib.hid (HOa4.out.below hb)
  have HOb5 := Lib.hid (HOb4.out.below hb)
  have HOd5 := Lib.hid (HOd4.out.below hb)
  have Kl := HKl4.out.below hb
  have Ka := HKa4.out.below hb
  have Kb := HKb4.out.below hb
  have Kd := HKd4.out.below hb
  have HB5 := Lib.hid (HB4.out.trans (hb.mono (by have := HB4.out.size; simp <;> omega)))
  clear hb ca0 ca1 za
  have cl0 := Kl.cell 0 _ rfl
  have cl1 := Kl.cell 1 _ rfl
  have zl := Kl.lt
  have HKl5 := Lib.hid Kl
  have HKa5 := Lib.hid Ka
  have HKb5 := Lib.hid Kb
  have HKd5 := Lib.hid Kd
  clear Kl Ka Kb Kd
  go_wp2_with fail
  with_reducible refine (refCheck6 (HARG.out.below HB5.out) HB5.out.size TS.out).mono ?_
  rintro e w6 ⟨rfl, hb⟩
  have HOa6 := Lib.hid (HOa5.out.below hb)
  have HOb6 := Lib.hid (HOb5.out.below hb)
  have HOd6 := Lib.hid (HOd5.out.below hb)
  have Kl := HKl5.out.below hb
  have Ka := HKa5.out.below hb
  have Kb := HKb5.out.below hb
  have Kd := HKd5.out.below hb
  have HB6 := Lib.hid (HB5.out.trans (hb.mono (by have := HB5.out.size; simp <;> omega)))
  clear hb cl0 cl1 zl
  have HKl6 := Lib.hid Kl
  have HKa6 := Lib.hid Ka
  have HKb6 := Lib.hid Kb
  have HKd6 := Lib.hid Kd
  clear Kl Ka Kb Kd
  go_wp2_with fail
  with_reducible refine (HA.out _).mono ?_
  rintro e w7 ⟨rfl, hb⟩
  have HOa7 := Lib.hid (HOa6.out.below hb)
  have HOb7 := Lib.hid (HOb6.out.below hb)
  have HOd7 := Lib.hid (HOd6.out.below hb)
  have Kl := HKl6.out.below hb
  have Ka := HKa6.out.below hb
  have Kb := HKb6.out.below hb
  have Kd := HKd6.out.below hb
  have HB7 := Lib.hid (HB6.out.trans (hb.mono (by have := HB6.out.size; simp <;> omega)))
  clear hb
  have cb0 := Kb.cell 0 _ rfl
  have cb1 := Kb.cell 1 _ rfl
  have zb := Kb.lt
  have cd0 := Kd.cell 0 _ rfl
  have cd1 := Kd.cell 1 _ rfl
  have zd := Kd.lt
  have HKl7 := Lib.hid Kl
  have HKa7 := Lib.hid Ka
  have HKb7 := Lib.hid Kb
  have HKd7 := Lib.hid Kd
  clear Kl Ka Kb Kd
  go_wp2_with fail
  with_reducible refine (same6_yes _ _ _ Ab Ad m cb N cd _ _ p rfl HOb7.out.arg HOd7.out.arg (Nat.le_refl _) (Nat.le_refl _)).mono ?_
  rintro e w8 ⟨rfl, hb⟩
  have HOa8 := Lib.hid (HOa7.out.below hb)
  have HOb8 := Lib.hid (HOb7.out.below hb)
  have HOd8 := Lib.hid (HOd7.out.below hb)
  have Kl := HKl7.out.below hb
  have Ka := HKa7.out.below hb
  have Kb := HKb7.out.below hb
  have Kd := HKd7.out.below hb
  have HB8 := Lib.hid (HB7.out.trans (hb.mono (by have := HB7.out.size; simp <;> omega)))
  clear hb cb0 cb1 zb cd0 cd1 zd
  have ca0 := Ka.cell 0 _ rfl
  have ca1 := Ka.cell 1 _ rfl
  have za := Ka.lt
  have HKl8 := Lib.hid Kl
  have HKa8 := Lib.hid Ka
  have HKb8 := Lib.hid Kb
  have HKd8 := Lib.hid Kd
  clear Kl Ka Kb Kd
  go_wp2_with fail
  with_reducible refine (permCheck6 (own_head (n := n) HOa8.out hl.out (by omega)) (Nat.le_refl _) TS.out).mono ?_
  rintro e w9 ⟨rfl, hb⟩
  have HOa9 := Lib.hid (HOa8.out.below hb)
  have HOb9 := Lib.hid (HOb8.out.below hb)
  have HOd9 := Lib.hid (HOd8.out.below hb)
  have Kl := HKl8.out.below hb
  have Ka := HKa8.out.below hb
  have Kb := HKb8.out.below hb
  have Kd := HKd8.out.below hb
  have HB9 := Lib.hid (HB8.out.trans (hb.mono (by have := HB8.out.size; simp <;> omega)))
  clear hb ca0 ca1 za
  have cl0 := Kl.cell 0 _ rfl
  have cl1 := Kl.cell 1 _ rfl
  have zl := Kl.lt
  have HKl9 := Lib.hid Kl
  have HKa9 := Lib.hid Ka
  have HKb9 := Lib.hid Kb
  have HKd9 := Lib.hid Kd
  clear Kl Ka Kb Kd
  go_wp2_with fail
  with_reducible refine (kept6_any _ _ _ A Aa n c ca xs p HOa9.out.arg (HARG.out.below HB9.out) (Nat.le_refl _) HB9.out.size).mono ?_
  rintro e w10 ⟨rfl, hb⟩
  have HOa10 := Lib.hid (HOa9.out.below hb)
  have HOb10 := Lib.hid (HOb9.out.below hb)
  have HOd10 := Lib.hid (HOd9.out.below hb)
  have Kl := HKl9.out.below hb
  have Ka := HKa9.out.below hb
  have Kb := HKb9.out.below hb
  have Kd := HKd9.out.below hb
  have HB10 := Lib.hid (HB9.out.trans (hb.mono (by have := HB9.out.size; simp <;> omega)))
  clear hb cl0 cl1 zl
  have cl0 := Kl.cell 0 _ rfl
  have cl1 := Kl.cell 1 _ rfl
  have zl := Kl.lt
  have HKl10 := Lib.hid Kl
  have HKa10 := Lib.hid Ka
  have HKb10 := Lib.hid Kb
  have HKd10 := Lib.hid Kd
  clear Kl Ka Kb Kd
  go_wp2_with fail
  with_reducible refine (refHas6 (t := x) (HARG.out.below HB10.out) TH.out).mono ?_
  rintro e w11 ⟨rfl, hb⟩
  have HOa11 := Lib.hid (HOa10.out.below hb)
  have HOb11 := Lib.hid (HOb10.out.below hb)
  have HOd11 := Lib.hid (HOd10.out.below hb)
  have Kl := HKl10.out.below hb
  have Ka := HKa10.out.below hb
  have Kb := HKb10.out.below hb
  have Kd := HKd10.out.below hb
  have HB11 := Lib.hid (HB10.out.trans (hb.mono (by have := HB10.out.size; simp <;> omega)))
  clear hb cl0 cl1 zl
  have cl0 := Kl.cell 0 _ rfl
  have cl1 := Kl.cell 1 _ rfl
  have zl := Kl.lt
  have HKl11 := Lib.hid Kl
  have HKa11 := Lib.hid Ka
  have HKb11 := Lib.hid Kb
  have HKd11 := Lib.hid Kd
  clear Kl Ka Kb Kd
  go_wp2
  go_ret
  exact ⟨rfl, HB11.out⟩

theorem permGives_row (A : Option Addr) (n c : Nat) (xs : List Int) (p x : Int) (w : World) (h : ArgI w w.heap.size A n c xs) (hc : c ≤ 17592186043904)
    (_wx : (Lit.int .i64 x).wf = true) :
    Calls Try.prog 12 #[.agg #[.int .i64 p, .slice A n c], .int .i64 x] w (ValEnd w (.bool true)) := by
  have HA := Lib.hid awake6_any
  have hl := Lib.hid h.len
  have hle := h.le
  have hcap := h.cap
  unfold maxLen at hcap
  have hn : n ≤ 17592186044000 := by omega
  rcases h3 : semB p xs with _ | _
  · exact permGives_1 w A n c xs p x 3 (Lib.hid h) hn HA hl (Lib.hid (semV_no h3)) (Lib.hid (by rw [h3]; rfl)) (Lib.hid (by rw [h3]; rfl)) (Lib.hid (by unfold giveE; rw [if_pos h3])) (by decide)
  · have hf := semB_iff.1 h3
    have e1 : IntKind.i64.wrap (p - (n : Int)) = p - n := IntWalk.i64_in _ (by have := h.len; omega)
    rcases h4 : hasV xs x with _ | _
    · exact permGives_2 w A n c xs p x 11 _ (Lib.hid h) hn HA hl (Lib.hid (semV_ok h3)) (Lib.hid (by rw [h3, h4]; rfl)) (Lib.hid (by rw [if_pos h3])) (Lib.hid (by unfold giveE; rw [if_neg (by rw [h3]; simp), if_pos h4])) (by decide) (Lib.hid h4) e1 hle hcap
    · exact permGives_3 w A n c xs p x _ _ _ _ (Lib.hid h) hn HA hl (Lib.hid (semV_ok h3)) (Lib.hid (by rw [h3, h4]; rfl)) (Lib.hid (by rw [if_pos h3])) (Lib.hid (giveE_zero.2 ⟨h3, h4⟩)) (Lib.hid h3) (Lib.hid h4) (Lib.hid rfl) (Lib.hid rfl) (Lib.hid rfl) (Lib.hid h4) e1 hle hcap
end Go.Proofs.Ythigbhhhhebjeaa
