/- Contracts of the document's perm: DocTake, DocGive by ways. -/
import Derived.Test.YthigbhhhhebjeaaPermF
namespace Go.Proofs.Ythigbhhhhebjeaa
open Go.RowKit
set_option maxRecDepth 100000
set_option linter.unusedVariables false

set_option maxHeartbeats 1600000 in
theorem doct_form (w : World) (A : Option Addr) (n c : Nat) (xs : List Int) (p t : Int)
    (h1 : 1 ≤ t) (h2 : t ≤ 4611686018427387903)
    (HC : Hid (∀ w', Below w.heap.size w w' → Calls Try.prog 44 #[.agg #[.int .i64 p, .slice A n c]] w' (ValEnd w' (.int .i64 3)))) :
    Calls Try.prog 34 #[.agg #[.int .i64 p, .slice A n c], .int .i64 t] w (ValEnd w (.tuple #[.agg #[.int .i64 0, .slice none 0 0], .int .i64 3])) := by
  have q1 : decide (t < 1) = false := decide_eq_false (by omega)
  have q2 : decide (4611686018427387903 < t) = false := decide_eq_false (by omega)
  clear h1 h2
  go_enter Try.func34, Try.ntmps34
  go_wp2_with fail
  with_reducible refine (HC.out _ (((Below.refl w.heap.size w).alloc (Nat.le_refl _) _).alloc (by simp) _)).mono ?_
  rintro e w1 ⟨rfl, hb⟩
  have Kl := ((BlkL.new _ [.int .i64 p, .slice A n c] 73).alloc _).below hb
  have Kr := (BlkL.new _ [.int .i64 0, .slice none 0 0] 73).below hb
  try simp only [World.size_alloc] at Kl Kr
  have HB1 := Lib.hid ((((Below.refl w.heap.size w).alloc (by simp <;> omega) _).alloc (by simp <;> omega) _).trans (hb.mono (by simp <;> omega)))
  clear hb
  have cl0 := Kl.cell 0 _ rfl
  have cl1 := Kl.cell 1 _ rfl
  have zl := Kl.lt
  have cr0 := Kr.cell 0 _ rfl
  have fr0 := Kr.froz 0 (by simp)
  have cr1 := Kr.cell 1 _ rfl
  have fr1 := Kr.froz 1 (by simp)
  have zr := Kr.lt
  have HKl1 := Lib.hid Kl
  have HKr1 := Lib.hid Kr
  clear Kl Kr
  go_wp2
  have bz := HKr1.out.put2 (.int .i64 0) (.slice none 0 0)
  have z0 := bz.cell 0 _ rfl
  have z1 := bz.cell 1 _ rfl
  have hbz := below_put2 HB1.out (b := w.heap.size + 1) (by omega) (.int .i64 0) (.slice none 0 0)
  clear bz
  exact bodyPost_ret (v := .tuple #[.agg #[.int .i64 0, .slice none 0 0], .int .i64 3]) (by simp [results, Try.results34, go_sem, z0, z1]) rfl ⟨rfl, hbz⟩


set_option maxHeartbeats 1600000 in
theorem doct_has (w : World) (A : Option Addr) (n c : Nat) (xs : List Int) (p t : Int)
    (h1 : 1 ≤ t) (h2 : t ≤ 4611686018427387903)
    (HC : Hid (∀ w', Below w.heap.size w w' → Calls Try.prog 44 #[.agg #[.int .i64 p, .slice A n c]] w' (ValEnd w' (.int .i64 0))))
    (HX : Hid (∀ w', Below w.heap.size w w' → Calls Try.prog 46 #[.slice A n c, .int .i64 t] w' fun e w1 => e = .returned (.bool true) ∧ w' = w1)) :
    Calls Try.prog 34 #[.agg #[.int .i64 p, .slice A n c], .int .i64 t] w (ValEnd w (.tuple #[.agg #[.int .i64 0, .slice none 0 0], .int .i64 8])) := by
  have q1 : decide (t < 1) = false := decide_eq_false (by omega)
  have q2 : decide (4611686018427387903 < t) = false := decide_eq_false (by omega)
  clear h1 h2
  go_enter Try.func34, Try.ntmps34
  go_wp2_with fail
  with_reducible refine (HC.out _ (((Below.refl w.heap.size w).alloc (Nat.le_refl _) _).alloc (by simp) _)).mono ?_
  rintro e w1 ⟨rfl, hb⟩
  have Kl := ((BlkL.new _ [.int .i64 p, .slice A n c] 73).alloc _).below hb
  have Kr := (BlkL.new _ [.int .i64 0, .slice none 0 0] 73).below hb
  try simp only [World.size_alloc] at Kl Kr
  have HB1 := Lib.hid ((((Below.refl w.heap.size w).alloc (by simp <;> omega) _).alloc (by simp <;> omega) _).trans (hb.mono (by simp <;> omega)))
  clear hb
  have cl0 := Kl.cell 0 _ rfl
  have cl1 := Kl.cell 1 _ rfl
  have zl := Kl.lt
  have cr0 := Kr.cell 0 _ rfl
  have fr0 := Kr.froz 0 (by simp)
  have cr1 := Kr.cell 1 _ rfl
  have fr1 := Kr.froz 1 (by simp)
  have zr := Kr.lt
  have HKl1 := Lib.hid Kl
  have HKr1 := Lib.hid Kr
  clear Kl Kr
  go_wp2_with fail
  with_reducible refine (HX.out _ HB1.out).mono ?_
  rintro e w' ⟨rfl, rfl⟩
  go_wp2
  have bz := HKr1.out.put2 (.int .i64 0) (.slice none 0 0)
  have z0 := bz.cell 0 _ rfl
  have z1 := bz.cell 1 _ rfl
  have hbz := below_put2 HB1.out (b := w.heap.size + 1) (by omega) (.int .i64 0) (.slice none 0 0)
  clear bz
  exact bodyPost_ret (v := .tuple #[.agg #[.int .i64 0, .slice none 0 0], .int .i64 8]) (by simp [results, Try.results34, go_sem, z0, z1]) rfl ⟨rfl, hbz⟩


set_option maxHeartbeats 1600000 in
theorem doct_busy (w : World) (A : Option Addr) (n c : Nat) (xs : List Int) (p t : Int)
    (h1 : 1 ≤ t) (h2 : t ≤ 4611686018427387903)
    (HC : Hid (∀ w', Below w.heap.size w w' → Calls Try.prog 44 #[.agg #[.int .i64 p, .slice A n c]] w' (ValEnd w' (.int .i64 0))))
    (HX : Hid (∀ w', Below w.heap.size w w' → Calls Try.prog 46 #[.slice A n c, .int .i64 t] w' fun e w1 => e = .returned (.bool false) ∧ w' = w1))
    (hp : ((n : Nat) : Int) = p)
    (hn : n ≤ c) (hc : c ≤ 2 ^ 63 - 1) :
    Calls Try.prog 34 #[.agg #[.int .i64 p, .slice A n c], .int .i64 t] w (ValEnd w (.tuple #[.agg #[.int .i64 0, .slice none 0 0], .int .i64 9])) := by
  have q1 : decide (t < 1) = false := decide_eq_false (by omega)
  have q2 : decide (4611686018427387903 < t) = false := decide_eq_false (by omega)
  clear h1 h2
  have qp : ((n : Int) == p) = true := by rw [hp]; exact beq_self_eq_true p
  clear hp
  go_enter Try.func34, Try.ntmps34
  go_wp2_with fail
  with_reducible refine (HC.out _ (((Below.refl w.heap.size w).alloc (Nat.le_refl _) _).alloc (by simp) _)).mono ?_
  rintro e w1 ⟨rfl, hb⟩
  have Kl := ((BlkL.new _ [.int .i64 p, .slice A n c] 73).alloc _).below hb
  have Kr := (BlkL.new _ [.int .i64 0, .slice none 0 0] 73).below hb
  try simp only [World.size_alloc] at Kl Kr
  have HB1 := Lib.hid ((((Below.refl w.heap.size w).alloc (by simp <;> omega) _).alloc (by simp <;> omega) _).trans (hb.mono (by simp <;> omega)))
  clear hb
  have cl0 := Kl.cell 0 _ rfl
  have cl1 := Kl.cell 1 _ rfl
  have zl := Kl.lt
  have cr0 := Kr.cell 0 _ rfl
  have fr0 := Kr.froz 0 (by simp)
  have cr1 := Kr.cell 1 _ rfl
  have fr1 := Kr.froz 1 (by simp)
  have zr := Kr.lt
  have HKl1 := Lib.hid Kl
  have HKr1 := Lib.hid Kr
  clear Kl Kr
  go_wp2_with fail
  with_reducible refine (HX.out _ HB1.out).mono ?_
  rintro e w' ⟨rfl, rfl⟩
  go_wp2
  have bz := HKr1.out.put2 (.int .i64 0) (.slice none 0 0)
  have z0 := bz.cell 0 _ rfl
  have z1 := bz.cell 1 _ rfl
  have hbz := below_put2 HB1.out (b := w.heap.size + 1) (by omega) (.int .i64 0) (.slice none 0 0)
  clear bz
  exact bodyPost_ret (v := .tuple #[.agg #[.int .i64 0, .slice none 0 0], .int .i64 9]) (by simp [results, Try.results34, go_sem, z0, z1]) rfl ⟨rfl, hbz⟩


set_option maxHeartbeats 1600000 in
theorem doct_good (w : World) (A : Option Addr) (n c : Nat) (xs : List Int) (p t : Int)
    (h1 : 1 ≤ t) (h2 : t ≤ 4611686018427387903)
    (HC : Hid (∀ w', Below w.heap.size w w' → Calls Try.prog 44 #[.agg #[.int .i64 p, .slice A n c]] w' (ValEnd w' (.int .i64 0))))
    (HX : Hid (∀ w', Below w.heap.size w w' → Calls Try.prog 46 #[.slice A n c, .int .i64 t] w' fun e w1 => e = .returned (.bool false) ∧ w' = w1))
    (HP : Hid (∀ w', Below w.heap.size w w' → Calls Try.prog 48 #[.slice A n c, .int .i64 t] w' fun e w2 => ∃ A' c', e = .returned (.slice A' (n + 1) c') ∧ OwnI w2 w'.heap.size A' (n + 1) c' (putV xs t) ∧ Below w'.heap.size w' w2))
    (hp : ((n : Nat) : Int) ≠ p)
    (hn : n ≤ c) (hc : c ≤ 2 ^ 63 - 1) :
    Calls Try.prog 34 #[.agg #[.int .i64 p, .slice A n c], .int .i64 t] w fun e w' => ∃ A' c', e = .returned (.tuple #[.agg #[.int .i64 p, .slice A' (n + 1) c'], .int .i64 0]) ∧ OwnI w' w.heap.size A' (n + 1) c' (putV xs t) ∧ Below w.heap.size w w' := by
  have q1 : decide (t < 1) = false := decide_eq_false (by omega)
  have q2 : decide (4611686018427387903 < t) = false := decide_eq_false (by omega)
  clear h1 h2
  have qp : ((n : Int) == p) = false := beq_eq_false_iff_ne.2 hp
  clear hp
  go_enter Try.func34, Try.ntmps34
  go_wp2_with fail
  with_reducible refine (HC.out _ (((Below.refl w.heap.size w).alloc (Nat.le_refl _) _).alloc (by simp) _)).mono ?_
  rintro e w1 ⟨rfl, hb⟩
  have Kl := ((BlkL.new _ [.int .i64 p, .slice A n c] 73).alloc _).below hb
  have Kr := (BlkL.new _ [.int .i64 0, .slice none 0 0] 73).below hb
  try simp only [World.size_alloc] at Kl Kr
  have HB1 := Lib.hid ((((Below.refl w.heap.size w).alloc (by simp <;> omega) _).alloc (by simp <;> omega) _).trans (hb.mono (by simp <;> omega)))
  clear hb
  have cl0 := Kl.cell 0 _ rfl
  have cl1 := Kl.cell 1 _ rfl
  have zl := Kl.lt
  have cr0 := Kr.cell 0 _ rfl
  have fr0 := Kr.froz 0 (by simp)
  have cr1 := Kr.cell 1 _ rfl
  have fr1 := Kr.froz 1 (by simp)
  have zr := Kr.lt
  have HKl1 := Lib.hid Kl
  have HKr1 := Lib.hid Kr
  clear Kl Kr
  go_wp2_with fail
  with_reducible refine (HX.out _ HB1.out).mono ?_
  rintro e w' ⟨rfl, rfl⟩
  go_wp2_with fail
  have hz1 := HKr1.out.lt
  go_region_with ((with_reducible refine (HP.out _ (by first | exact HB1.out | exact HB1.out.drew)).mono ?_); rintro e w2 ⟨A', c', rfl, ho, hb⟩; have bl := (by first | exact HKl1.out.drew.below hb | exact HKl1.out.below hb : BlkL w2 w.heap.size [.int .i64 p, .slice A n c]); have br := (by first | exact HKr1.out.drew.below hb | exact HKr1.out.below hb : BlkL w2 (w.heap.size + 1) [.int .i64 0, .slice none 0 0]); have HB2 : Hid (Below w.heap.size w w2) := Lib.hid (by first | exact HB1.out.drew.trans (hb.mono HB1.out.drew.size) | exact HB1.out.trans (hb.mono HB1.out.size)); have HO := Lib.hid ho; clear ho hb cl0 cl1 cr0 cr1 fr0 fr1; have cl0 := bl.cell 0 _ rfl; have cl1 := bl.cell 1 _ rfl; have cr0 := br.cell 0 _ rfl; have cr1 := br.cell 1 _ rfl; have fr0 := br.froz 0 (by simp); have fr1 := br.froz 1 (by simp); have HR2 := Lib.hid br; clear bl br)
  all_goals
    go_wp2
    have bz := HR2.out.put2 (.int .i64 p) (.slice A' (n + 1) c')
    have z0 := bz.cell 0 _ rfl
    have z1 := bz.cell 1 _ rfl
    have hbz := below_put2 HB2.out (b := w.heap.size + 1) (by omega) (.int .i64 p) (.slice A' (n + 1) c')
    have hoz := ((HO.out.other (b := w.heap.size + 1) (i := 0) (v := .int .i64 p) (by simp; omega)).other (b := w.heap.size + 1) (i := 1) (v := .slice A' (n + 1) c') (by simp; omega)).mono (B' := w.heap.size) (by simp; omega)
    clear bz cl0 cl1 cr0 cr1 fr0 fr1
    exact bodyPost_ret (v := .tuple #[.agg #[.int .i64 p, .slice A' (n + 1) c'], .int .i64 0]) (by simp [results, Try.results34, go_sem, z0, z1]) rfl ⟨A', c', rfl, hoz, hbz⟩


set_option maxHeartbeats 1600000 in
theorem docg_form (w : World) (A : Option Addr) (n c : Nat) (xs : List Int) (p t : Int)
    (HC : Hid (∀ w', Below w.heap.size w w' → Calls Try.prog 44 #[.agg #[.int .i64 p, .slice A n c]] w' (ValEnd w' (.int .i64 3)))) :
    Calls Try.prog 41 #[.agg #[.int .i64 p, .slice A n c], .int .i64 t] w (ValEnd w (.tuple #[.agg #[.int .i64 0, .slice none 0 0], .int .i64 3])) := by
  go_enter Try.func41, Try.ntmps41
  go_wp2_with fail
  with_reducible refine (HC.out _ (((Below.refl w.heap.size w).alloc (Nat.le_refl _) _).alloc (by simp) _)).mono ?_
  rintro e w1 ⟨rfl, hb⟩
  have Kl := ((BlkL.new _ [.int .i64 p, .slice A n c] 73).alloc _).below hb
  have Kr := (BlkL.new _ [.int .i64 0, .slice none 0 0] 73).below hb
  try simp only [World.size_alloc] at Kl Kr
  have HB1 := Lib.hid ((((Below.refl w.heap.size w).alloc (by simp <;> omega) _).alloc (by simp <;> omega) _).trans (hb.mono (by simp <;> omega)))
  clear hb
  have cl0 := Kl.cell 0 _ rfl
  have cl1 := Kl.cell 1 _ rfl
  have zl := Kl.lt
  have cr0 := Kr.cell 0 _ rfl
  have fr0 := Kr.froz 0 (by simp)
  have cr1 := Kr.cell 1 _ rfl
  have fr1 := Kr.froz 1 (by simp)
  have zr := Kr.lt
  have HKl1 := Lib.hid Kl
  have HKr1 := Lib.hid Kr
  clear Kl Kr
  go_wp2
  have bz := HKr1.out.put2 (.int .i64 0) (.slice none 0 0)
  have z0 := bz.cell 0 _ rfl
  have z1 := bz.cell 1 _ rfl
  have hbz := below_put2 HB1.out (b := w.heap.size + 1) (by omega) (.int .i64 0) (.slice none 0 0)
  clear bz
  exact bodyPost_ret (v := .tuple #[.agg #[.int .i64 0, .slice none 0 0], .int .i64 3]) (by simp [results, Try.results41, go_sem, z0, z1]) rfl ⟨rfl, hbz⟩


set_option maxHeartbeats 1600000 in
theorem docg_tok (w : World) (A : Option Addr) (n c : Nat) (xs : List Int) (p t : Int)
    (HC : Hid (∀ w', Below w.heap.size w w' → Calls Try.prog 44 #[.agg #[.int .i64 p, .slice A n c]] w' (ValEnd w' (.int .i64 0))))
    (HX : Hid (∀ w', Below w.heap.size w w' → Calls Try.prog 46 #[.slice A n c, .int .i64 t] w' fun e w1 => e = .returned (.bool false) ∧ w' = w1)) :
    Calls Try.prog 41 #[.agg #[.int .i64 p, .slice A n c], .int .i64 t] w (ValEnd w (.tuple #[.agg #[.int .i64 0, .slice none 0 0], .int .i64 11])) := by
  go_enter Try.func41, Try.ntmps41
  go_wp2_with fail
  with_reducible refine (HC.out _ (((Below.refl w.heap.size w).alloc (Nat.le_refl _) _).alloc (by simp) _)).mono ?_
  rintro e w1 ⟨rfl, hb⟩
  have Kl := ((BlkL.new _ [.int .i64 p, .slice A n c] 73).alloc _).below hb
  have Kr := (BlkL.new _ [.int .i64 0, .slice none 0 0] 73).below hb
  try simp only [World.size_alloc] at Kl Kr
  have HB1 := Lib.hid ((((Below.refl w.heap.size w).alloc (by simp <;> omega) _).alloc (by simp <;> omega) _).trans (hb.mono (by simp <;> omega)))
  clear hb
  have cl0 := Kl.cell 0 _ rfl
  have cl1 := Kl.cell 1 _ rfl
  have zl := Kl.lt
  have cr0 := Kr.cell 0 _ rfl
  have fr0 := Kr.froz 0 (by simp)
  have cr1 := Kr.cell 1 _ rfl
  have fr1 := Kr.froz 1 (by simp)
  have zr := Kr.lt
  have HKl1 := Lib.hid Kl
  have HKr1 := Lib.hid Kr
  clear Kl Kr
  go_wp2_with fail
  with_reducible refine (HX.out _ HB1.out).mono ?_
  rintro e w' ⟨rfl, rfl⟩
  go_wp2
  have bz := HKr1.out.put2 (.int .i64 0) (.slice none 0 0)
  have z0 := bz.cell 0 _ rfl
  have z1 := bz.cell 1 _ rfl
  have hbz := below_put2 HB1.out (b := w.heap.size + 1) (by omega) (.int .i64 0) (.slice none 0 0)
  clear bz
  exact bodyPost_ret (v := .tuple #[.agg #[.int .i64 0, .slice none 0 0], .int .i64 11]) (by simp [results, Try.results41, go_sem, z0, z1]) rfl ⟨rfl, hbz⟩


set_option maxHeartbeats 1600000 in
theorem docg_good (w : World) (A : Option Addr) (n c : Nat) (xs : List Int) (p t : Int)
    (HC : Hid (∀ w', Below w.heap.size w w' → Calls Try.prog 44 #[.agg #[.int .i64 p, .slice A n c]] w' (ValEnd w' (.int .i64 0))))
    (HX : Hid (∀ w', Below w.heap.size w w' → Calls Try.prog 46 #[.slice A n c, .int .i64 t] w' fun e w1 => e = .returned (.bool true) ∧ w' = w1))
    (N : Nat)
    (HP : Hid (∀ w', Below w.heap.size w w' → Calls Try.prog 47 #[.slice A n c, .int .i64 t] w' fun e w2 => ∃ A' c', e = .returned (.slice A' (N) c') ∧ OwnI w2 w'.heap.size A' (N) c' (dropV xs t) ∧ Below w'.heap.size w' w2)) :
    Calls Try.prog 41 #[.agg #[.int .i64 p, .slice A n c], .int .i64 t] w fun e w' => ∃ A' c', e = .returned (.tuple #[.agg #[.int .i64 p, .slice A' (N) c'], .int .i64 0]) ∧ OwnI w' w.heap.size A' (N) c' (dropV xs t) ∧ Below w.heap.size w w' := by
  go_enter Try.func41, Try.ntmps41
  go_wp2_with fail
  with_reducible refine (HC.out _ (((Below.refl w.heap.size w).alloc (Nat.le_refl _) _).alloc (by simp) _)).mono ?_
  rintro e w1 ⟨rfl, hb⟩
  have Kl := ((BlkL.new _ [.int .i64 p, .slice A n c] 73).alloc _).below hb
  have Kr := (BlkL.new _ [.int .i64 0, .slice none 0 0] 73).below hb
  try simp only [World.size_alloc] at Kl Kr
  have HB1 := Lib.hid ((((Below.refl w.heap.size w).alloc (by simp <;> omega) _).alloc (by simp <;> omega) _).trans (hb.mono (by simp <;> omega)))
  clear hb
  have cl0 := Kl.cell 0 _ rfl
  have cl1 := Kl.cell 1 _ rfl
  have zl := Kl.lt
  have cr0 := Kr.cell 0 _ rfl
  have fr0 := Kr.froz 0 (by simp)
  have cr1 := Kr.cell 1 _ rfl
  have fr1 := Kr.froz 1 (by simp)
  have zr := Kr.lt
  have HKl1 := Lib.hid Kl
  have HKr1 := Lib.hid Kr
  clear Kl Kr
  go_wp2_with fail
  with_reducible refine (HX.out _ HB1.out).mono ?_
  rintro e w' ⟨rfl, rfl⟩
  go_wp2_with fail
  have hz1 := HKr1.out.lt
  go_region_with ((with_reducible refine (HP.out _ (by first | exact HB1.out | exact HB1.out.drew)).mono ?_); rintro e w2 ⟨A', c', rfl, ho, hb⟩; have bl := (by first | exact HKl1.out.drew.below hb | exact HKl1.out.below hb : BlkL w2 w.heap.size [.int .i64 p, .slice A n c]); have br := (by first | exact HKr1.out.drew.below hb | exact HKr1.out.below hb : BlkL w2 (w.heap.size + 1) [.int .i64 0, .slice none 0 0]); have HB2 : Hid (Below w.heap.size w w2) := Lib.hid (by first | exact HB1.out.drew.trans (hb.mono HB1.out.drew.size) | exact HB1.out.trans (hb.mono HB1.out.size)); have HO := Lib.hid ho; clear ho hb cl0 cl1 cr0 cr1 fr0 fr1; have cl0 := bl.cell 0 _ rfl; have cl1 := bl.cell 1 _ rfl; have cr0 := br.cell 0 _ rfl; have cr1 := br.cell 1 _ rfl; have fr0 := br.froz 0 (by simp); have fr1 := br.froz 1 (by simp); have HR2 := Lib.hid br; clear bl br)
  all_goals
    go_wp2
    have bz := HR2.out.put2 (.int .i64 p) (.slice A' (N) c')
    have z0 := bz.cell 0 _ rfl
    have z1 := bz.cell 1 _ rfl
    have hbz := below_put2 HB2.out (b := w.heap.size + 1) (by omega) (.int .i64 p) (.slice A' (N) c')
    have hoz := ((HO.out.other (b := w.heap.size + 1) (i := 0) (v := .int .i64 p) (by simp; omega)).other (b := w.heap.size + 1) (i := 1) (v := .slice A' (N) c') (by simp; omega)).mono (B' := w.heap.size) (by simp; omega)
    clear bz cl0 cl1 cr0 cr1 fr0 fr1
    exact bodyPost_ret (v := .tuple #[.agg #[.int .i64 p, .slice A' (N) c'], .int .i64 0]) (by simp [results, Try.results41, go_sem, z0, z1]) rfl ⟨A', c', rfl, hoz, hbz⟩


end Go.Proofs.Ythigbhhhhebjeaa
