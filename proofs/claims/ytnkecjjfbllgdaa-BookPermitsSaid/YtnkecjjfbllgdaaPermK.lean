/- Contracts of package perm: Take, Give. -/
import Derived.Test.YtnkecjjfbllgdaaPermT
namespace Go.Proofs.Ytnkecjjfbllgdaa
open Go.RowKit
set_option maxRecDepth 100000
set_option linter.unusedVariables false

theorem OwnI.other {w : World} {B n c : Nat} {A : Option Addr} {xs : List Int} (h : OwnI w B A n c xs) {b i : Nat} {v : Value} (hb : b < B) : OwnI (w.setCell ⟨b, i, none⟩ v) B A n c xs := by
  rcases h with ⟨h0, h | ⟨g, cap, cur, h1, h2, h3, h4⟩⟩
  · exact ⟨h0, .inl h⟩
  · refine ⟨h0, .inr ⟨g, cap, cur, h1, h2, ?_, h4⟩⟩
    have hne : ¬ b = g := by omega
    rw [← h3]
    simp [World.setCell, Array.getElem?_modify, hne]

set_option maxHeartbeats 1600000 in
theorem take_arg (w : World) (A : Option Addr) (n c : Nat) (p t : Int)
    (HS : Hid (∀ w, Calls Try.prog 61 #[.int .i64 t] w fun e w' => e = .returned (.bool false) ∧ w = w')) :
    Calls Try.prog 64 #[.agg #[.int .i64 p, .slice A n c], .int .i64 t] w (ValEnd w (.tuple #[.agg #[.int .i64 0, .slice none 0 0], .int .i64 1])) := by
  go_enter Try.func64, Try.ntmps64
  go_wp2_with fail
  with_reducible refine (HS.out _).mono ?_
  rintro e w' ⟨rfl, rfl⟩
  go_wp2
  exact bodyPost_ret (v := .tuple #[.agg #[.int .i64 0, .slice none 0 0], .int .i64 1]) (by simp [results, Try.results64, go_sem]) rfl ⟨rfl, ((Below.refl w.heap.size w).alloc (Nat.le_refl _) _).alloc (by simp) _⟩


set_option maxHeartbeats 1600000 in
theorem take_form (w : World) (A : Option Addr) (n c : Nat) (p t : Int)
    (HS : Hid (∀ w, Calls Try.prog 61 #[.int .i64 t] w fun e w' => e = .returned (.bool true) ∧ w = w'))
    (HC : Hid (∀ w', Below w.heap.size w w' → Calls Try.prog 45 #[.agg #[.int .i64 p, .slice A n c]] w' (ValEnd w' (.int .i64 3)))) :
    Calls Try.prog 64 #[.agg #[.int .i64 p, .slice A n c], .int .i64 t] w (ValEnd w (.tuple #[.agg #[.int .i64 0, .slice none 0 0], .int .i64 3])) := by
  go_enter Try.func64, Try.ntmps64
  go_wp2_with fail
  with_reducible refine (HS.out _).mono ?_
  rintro e w' ⟨rfl, rfl⟩
  go_wp2_with fail
  with_reducible refine (HC.out _ (((Below.refl w.heap.size w).alloc (Nat.le_refl _) _).alloc (by simp) _)).mono ?_
  rintro e w1 ⟨rfl, hb⟩
  have Kl := ((BlkL.new _ [.int .i64 p, .slice A n c] 93).alloc _).below hb
  have Kr := (BlkL.new _ [.int .i64 0, .slice none 0 0] 93).below hb
  try simp only [World.size_alloc] at Kl Kr
  have HB1 := Lib.hid ((((Below.refl w.heap.size w).alloc (by simp <;> omega) _).alloc (by simp <;> omega) _).trans (hb.mono (by simp <;> omega)))
  clear hb
  have cl0 := Kl.cell 0 _ rfl
  have cl1 := Kl.cell 1 _ rfl
  have zl := Kl.lt
  have cr0 := Kr.cell 0 _ rfl
  have fr0 := Kr.froz 0 (by simp)
  have cr1 := Kr.cell 1 _ rfl
  have fr1 := Kr.froz 1 (by simp)
  have zr := Kr.lt
  have HKl1 := Lib.hid Kl
  have HKr1 := Lib.hid Kr
  clear Kl Kr
  go_wp2
  have bz := HKr1.out.put2 (.int .i64 0) (.slice none 0 0)
  have z0 := bz.cell 0 _ rfl
  have z1 := bz.cell 1 _ rfl
  have hbz := below_put2 HB1.out (b := w.heap.size + 1) (by omega) (.int .i64 0) (.slice none 0 0)
  clear bz
  exact bodyPost_ret (v := .tuple #[.agg #[.int .i64 0, .slice none 0 0], .int .i64 3]) (by simp [results, Try.results64, go_sem, z0, z1]) rfl ⟨rfl, hbz⟩


set_option maxHeartbeats 1600000 in
theorem take_has (w : World) (A : Option Addr) (n c : Nat) (p t : Int) (k : Nat)
    (HS : Hid (∀ w, Calls Try.prog 61 #[.int .i64 t] w fun e w' => e = .returned (.bool true) ∧ w = w'))
    (HC : Hid (∀ w', Below w.heap.size w w' → Calls Try.prog 45 #[.agg #[.int .i64 p, .slice A n c]] w' (ValEnd w' (.int .i64 0))))
    (HX : Hid (∀ w', Below w.heap.size w w' → Calls Try.prog 74 #[.slice A n c, .int .i64 t] w' fun e w1 => e = .returned (.tuple #[.int .i64 (k : Int), .bool true]) ∧ w' = w1)) :
    Calls Try.prog 64 #[.agg #[.int .i64 p, .slice A n c], .int .i64 t] w (ValEnd w (.tuple #[.agg #[.int .i64 0, .slice none 0 0], .int .i64 8])) := by
  go_enter Try.func64, Try.ntmps64
  go_wp2_with fail
  with_reducible refine (HS.out _).mono ?_
  rintro e w' ⟨rfl, rfl⟩
  go_wp2_with fail
  with_reducible refine (HC.out _ (((Below.refl w.heap.size w).alloc (Nat.le_refl _) _).alloc (by simp) _)).mono ?_
  rintro e w1 ⟨rfl, hb⟩
  have Kl := ((BlkL.new _ [.int .i64 p, .slice A n c] 93).alloc _).below hb
  have Kr := (BlkL.new _ [.int .i64 0, .slice none 0 0] 93).below hb
  try simp only [World.size_alloc] at Kl Kr
  have HB1 := Lib.hid ((((Below.refl w.heap.size w).alloc (by simp <;> omega) _).alloc (by simp <;> omega) _).trans (hb.mono (by simp <;> omega)))
  clear hb
  have cl0 := Kl.cell 0 _ rfl
  have cl1 := Kl.cell 1 _ rfl
  have zl := Kl.lt
  have cr0 := Kr.cell 0 _ rfl
  have fr0 := Kr.froz 0 (by simp)
  have cr1 := Kr.cell 1 _ rfl
  have fr1 := Kr.froz 1 (by simp)
  have zr := Kr.lt
  have HKl1 := Lib.hid Kl
  have HKr1 := Lib.hid Kr
  clear Kl Kr
  go_wp2_with fail
  with_reducible refine (HX.out _ HB1.out).mono ?_
  rintro e w' ⟨rfl, rfl⟩
  go_wp2
  have bz := HKr1.out.put2 (.int .i64 0) (.slice none 0 0)
  have z0 := bz.cell 0 _ rfl
  have z1 := bz.cell 1 _ rfl
  have hbz := below_put2 HB1.out (b := w.heap.size + 1) (by omega) (.int .i64 0) (.slice none 0 0)
  clear bz
  exact bodyPost_ret (v := .tuple #[.agg #[.int .i64 0, .slice none 0 0], .int .i64 8]) (by simp [results, Try.results64, go_sem, z0, z1]) rfl ⟨rfl, hbz⟩


set_option maxHeartbeats 1600000 in
theorem take_busy (w : World) (A : Option Addr) (n c : Nat) (p t : Int) (k : Nat)
    (HS : Hid (∀ w, Calls Try.prog 61 #[.int .i64 t] w fun e w' => e = .returned (.bool true) ∧ w = w'))
    (HC : Hid (∀ w', Below w.heap.size w w' → Calls Try.prog 45 #[.agg #[.int .i64 p, .slice A n c]] w' (ValEnd w' (.int .i64 0))))
    (HX : Hid (∀ w', Below w.heap.size w w' → Calls Try.prog 74 #[.slice A n c, .int .i64 t] w' fun e w1 => e = .returned (.tuple #[.int .i64 (k : Int), .bool false]) ∧ w' = w1))
    (hp : p = (n : Int)) :
    Calls Try.prog 64 #[.agg #[.int .i64 p, .slice A n c], .int .i64 t] w (ValEnd w (.tuple #[.agg #[.int .i64 0, .slice none 0 0], .int .i64 9])) := by
  have q : ((n : Int) == p) = true := by simp [hp]
  clear hp
  go_enter Try.func64, Try.ntmps64
  go_wp2_with fail
  with_reducible refine (HS.out _).mono ?_
  rintro e w' ⟨rfl, rfl⟩
  go_wp2_with fail
  with_reducible refine (HC.out _ (((Below.refl w.heap.size w).alloc (Nat.le_refl _) _).alloc (by simp) _)).mono ?_
  rintro e w1 ⟨rfl, hb⟩
  have Kl := ((BlkL.new _ [.int .i64 p, .slice A n c] 93).alloc _).below hb
  have Kr := (BlkL.new _ [.int .i64 0, .slice none 0 0] 93).below hb
  try simp only [World.size_alloc] at Kl Kr
  have HB1 := Lib.hid ((((Below.refl w.heap.size w).alloc (by simp <;> omega) _).alloc (by simp <;> omega) _).trans (hb.mono (by simp <;> omega)))
  clear hb
  have cl0 := Kl.cell 0 _ rfl
  have cl1 := Kl.cell 1 _ rfl
  have zl := Kl.lt
  have cr0 := Kr.cell 0 _ rfl
  have fr0 := Kr.froz 0 (by simp)
  have cr1 := Kr.cell 1 _ rfl
  have fr1 := Kr.froz 1 (by simp)
  have zr := Kr.lt
  have HKl1 := Lib.hid Kl
  have HKr1 := Lib.hid Kr
  clear Kl Kr
  go_wp2_with fail
  with_reducible refine (HX.out _ HB1.out).mono ?_
  rintro e w' ⟨rfl, rfl⟩
  go_wp2
  have bz := HKr1.out.put2 (.int .i64 0) (.slice none 0 0)
  have z0 := bz.cell 0 _ rfl
  have z1 := bz.cell 1 _ rfl
  have hbz := below_put2 HB1.out (b := w.heap.size + 1) (by omega) (.int .i64 0) (.slice none 0 0)
  clear bz
  exact bodyPost_ret (v := .tuple #[.agg #[.int .i64 0, .slice none 0 0], .int .i64 9]) (by simp [results, Try.results64, go_sem, z0, z1]) rfl ⟨rfl, hbz⟩


set_option maxHeartbeats 1600000 in
theorem give_form (w : World) (A : Option Addr) (n c : Nat) (p t : Int)
    (HC : Hid (∀ w', Below w.heap.size w w' → Calls Try.prog 45 #[.agg #[.int .i64 p, .slice A n c]] w' (ValEnd w' (.int .i64 3)))) :
    Calls Try.prog 67 #[.agg #[.int .i64 p, .slice A n c], .int .i64 t] w (ValEnd w (.tuple #[.agg #[.int .i64 0, .slice none 0 0], .int .i64 3])) := by
  go_enter Try.func67, Try.ntmps67
  go_wp2_with fail
  with_reducible refine (HC.out _ (((Below.refl w.heap.size w).alloc (Nat.le_refl _) _).alloc (by simp) _)).mono ?_
  rintro e w1 ⟨rfl, hb⟩
  have Kl := ((BlkL.new _ [.int .i64 p, .slice A n c] 93).alloc _).below hb
  have Kr := (BlkL.new _ [.int .i64 0, .slice none 0 0] 93).below hb
  try simp only [World.size_alloc] at Kl Kr
  have HB1 := Lib.hid ((((Below.refl w.heap.size w).alloc (by simp <;> omega) _).alloc (by simp <;> omega) _).trans (hb.mono (by simp <;> omega)))
  clear hb
  have cl0 := Kl.cell 0 _ rfl
  have cl1 := Kl.cell 1 _ rfl
  have zl := Kl.lt
  have cr0 := Kr.cell 0 _ rfl
  have fr0 := Kr.froz 0 (by simp)
  have cr1 := Kr.cell 1 _ rfl
  have fr1 := Kr.froz 1 (by simp)
  have zr := Kr.lt
  have HKl1 := Lib.hid Kl
  have HKr1 := Lib.hid Kr
  clear Kl Kr
  go_wp2
  have bz := HKr1.out.put2 (.int .i64 0) (.slice none 0 0)
  have z0 := bz.cell 0 _ rfl
  have z1 := bz.cell 1 _ rfl
  have hbz := below_put2 HB1.out (b := w.heap.size + 1) (by omega) (.int .i64 0) (.slice none 0 0)
  clear bz
  exact bodyPost_ret (v := .tuple #[.agg #[.int .i64 0, .slice none 0 0], .int .i64 3]) (by simp [results, Try.results67, go_sem, z0, z1]) rfl ⟨rfl, hbz⟩


set_option maxHeartbeats 1600000 in
theorem give_tok (w : World) (A : Option Addr) (n c : Nat) (p t : Int) (k : Nat)
    (HC : Hid (∀ w', Below w.heap.size w w' → Calls Try.prog 45 #[.agg #[.int .i64 p, .slice A n c]] w' (ValEnd w' (.int .i64 0))))
    (HX : Hid (∀ w', Below w.heap.size w w' → Calls Try.prog 74 #[.slice A n c, .int .i64 t] w' fun e w1 => e = .returned (.tuple #[.int .i64 (k : Int), .bool false]) ∧ w' = w1)) :
    Calls Try.prog 67 #[.agg #[.int .i64 p, .slice A n c], .int .i64 t] w (ValEnd w (.tuple #[.agg #[.int .i64 0, .slice none 0 0], .int .i64 11])) := by
  go_enter Try.func67, Try.ntmps67
  go_wp2_with fail
  with_reducible refine (HC.out _ (((Below.refl w.heap.size w).alloc (Nat.le_refl _) _).alloc (by simp) _)).mono ?_
  rintro e w1 ⟨rfl, hb⟩
  have Kl := ((BlkL.new _ [.int .i64 p, .slice A n c] 93).alloc _).below hb
  have Kr := (BlkL.new _ [.int .i64 0, .slice none 0 0] 93).below hb
  try simp only [World.size_alloc] at Kl Kr
  have HB1 := Lib.hid ((((Below.refl w.heap.size w).alloc (by simp <;> omega) _).alloc (by simp <;> omega) _).trans (hb.mono (by simp <;> omega)))
  clear hb
  have cl0 := Kl.cell 0 _ rfl
  have cl1 := Kl.cell 1 _ rfl
  have zl := Kl.lt
  have cr0 := Kr.cell 0 _ rfl
  have fr0 := Kr.froz 0 (by simp)
  have cr1 := Kr.cell 1 _ rfl
  have fr1 := Kr.froz 1 (by simp)
  have zr := Kr.lt
  have HKl1 := Lib.hid Kl
  have HKr1 := Lib.hid Kr
  clear Kl Kr
  go_wp2_with fail
  with_reducible refine (HX.out _ HB1.out).mono ?_
  rintro e w' ⟨rfl, rfl⟩
  go_wp2
  have bz := HKr1.out.put2 (.int .i64 0) (.slice none 0 0)
  have z0 := bz.cell 0 _ rfl
  have z1 := bz.cell 1 _ rfl
  have hbz := below_put2 HB1.out (b := w.heap.size + 1) (by omega) (.int .i64 0) (.slice none 0 0)
  clear bz
  exact bodyPost_ret (v := .tuple #[.agg #[.int .i64 0, .slice none 0 0], .int .i64 11]) (by simp [results, Try.results67, go_sem, z0, z1]) rfl ⟨rfl, hbz⟩


set_option maxHeartbeats 3200000 in
theorem take_E (w : World) (A : Option Addr) (p t : Int) (k : Nat) (xs : List Int) (h : ArgI w w.heap.size A k k xs) (hn : k ≤ 64) (hp : ((k : Nat) : Int) ≠ p)
    (HS : Hid (∀ w, Calls Try.prog 61 #[.int .i64 t] w fun e w' => e = .returned (.bool true) ∧ w = w'))
    (HC : Hid (∀ w', Below w.heap.size w w' → Calls Try.prog 45 #[.agg #[.int .i64 p, .slice A k k]] w' (ValEnd w' (.int .i64 0))))
    (HX : Hid (∀ w', Below w.heap.size w w' → Calls Try.prog 74 #[.slice A k k, .int .i64 t] w' fun e w1 => e = .returned (.tuple #[.int .i64 (k : Int), .bool false]) ∧ w' = w1)) :
    Calls Try.prog 64 #[.agg #[.int .i64 p, .slice A k k], .int .i64 t] w fun e w' => ∃ A' c', e = .returned (.tuple #[.agg #[.int .i64 p, .slice A' (k + 1) c'], .int .i64 0]) ∧ OwnI w' w.heap.size A' (k + 1) c' (xs.take k ++ [t] ++ xs.drop k) ∧ Below w.heap.size w w' := by
  have hle := h.le
  have hcap := h.cap
  unfold maxLen at hcap
  have k0 : (0 : Int) ≤ k := by omega
  have kb : (k : Int) ≤ 64 := by omega
  have kc : (k : Int) ≤ ((k : Nat) : Int) := by omega
  have kc2 : k ≤ k := by omega
  have kn2 : k ≤ k := by omega
  have qp : (((k : Nat) : Int) == p) = false := beq_eq_false_iff_ne.2 hp
  clear hp
  have H1 := Lib.hid (h.to_ (k := k) (by omega))
  have H2' := h.from_ (k := k) (by omega)
  rw [if_pos rfl, Nat.sub_self] at H2'
  have H2 := Lib.hid H2'
  clear H2'
  clear h
  go_enter Try.func64, Try.ntmps64
  go_wp2_with fail
  with_reducible refine (HS.out _).mono ?_
  rintro e w' ⟨rfl, rfl⟩
  go_wp2_with fail
  with_reducible refine (HC.out _ (((Below.refl w.heap.size w).alloc (Nat.le_refl _) _).alloc (by simp) _)).mono ?_
  rintro e w1 ⟨rfl, hb⟩
  have Kl := ((BlkL.new _ [.int .i64 p, .slice A k k] 93).alloc _).below hb
  have Kr := (BlkL.new _ [.int .i64 0, .slice none 0 0] 93).below hb
  try simp only [World.size_alloc] at Kl Kr
  have HB1 := Lib.hid ((((Below.refl w.heap.size w).alloc (by simp <;> omega) _).alloc (by simp <;> omega) _).trans (hb.mono (by simp <;> omega)))
  clear hb
  have cl0 := Kl.cell 0 _ rfl
  have fl0 := Kl.froz 0 (by simp)
  have cl1 := Kl.cell 1 _ rfl
  have fl1 := Kl.froz 1 (by simp)
  have zl := Kl.lt
  have cr0 := Kr.cell 0 _ rfl
  have fr0 := Kr.froz 0 (by simp)
  have cr1 := Kr.cell 1 _ rfl
  have fr1 := Kr.froz 1 (by simp)
  have zr := Kr.lt
  have HKl1 := Lib.hid Kl
  have HKr1 := Lib.hid Kr
  clear Kl Kr
  go_wp2_with fail
  with_reducible refine (HX.out _ HB1.out).mono ?_
  rintro e w' ⟨rfl, rfl⟩
  go_wp2_with fail
  have HBd := HB1
  have HP1 := Lib.hid ((H1.out.below HBd.out).more (B' := w1.heap.size) HBd.out.size)
  have HP2 := Lib.hid ((H2.out.below HBd.out).more (B' := w1.heap.size) HBd.out.size)
  have hz1 := HKr1.out.lt
  go_region_with ((with_reducible refine (concat_three_d w1 _ _ t A A k k 0 0 (k + 1) (xs.take k) (xs.drop k) HP1.out HP2.out rfl (by simp) (by omega) (by omega)).mono ?_); rintro e w2 ⟨A', c', rfl, ho, hb⟩; have bl := HKl1.out.below hb; have br := HKr1.out.below hb; have HB2 := Lib.hid (HB1.out.trans (hb.mono HB1.out.size)); have HO := Lib.hid ho; clear ho hb cl0 cl1 fl0 fl1 cr0 cr1 fr0 fr1; have cl0 := bl.cell 0 _ rfl; have cl1 := bl.cell 1 _ rfl; have fl1 := bl.froz 1 (by simp); have cr0 := br.cell 0 _ rfl; have cr1 := br.cell 1 _ rfl; have fr0 := br.froz 0 (by simp); have fr1 := br.froz 1 (by simp); have HR2 := Lib.hid br; clear bl br)
  all_goals
    go_wp2
    have bz := (HR2.out.other w.heap.size 1 (.slice A' (k + 1) c') (by omega)).put2 (.int .i64 p) (.slice A' (k + 1) c')
    have z0 := bz.cell 0 _ rfl
    have z1 := bz.cell 1 _ rfl
    have hbz := below_put2 (HB2.out.setCell (p := ⟨w.heap.size, 1, none⟩) (Nat.le_refl _) (.slice A' (k + 1) c')) (b := w.heap.size + 1) (by omega) (.int .i64 p) (.slice A' (k + 1) c')
    have hoz := (((HO.out.other (b := w.heap.size) (i := 1) (v := .slice A' (k + 1) c') (by omega)).other (b := w.heap.size + 1) (i := 0) (v := .int .i64 p) (by omega)).other (b := w.heap.size + 1) (i := 1) (v := .slice A' (k + 1) c') (by omega)).mono (B' := w.heap.size) (by omega)
    clear bz cl0 cl1 fl1 cr0 cr1 fr0 fr1
    exact bodyPost_ret (v := .tuple #[.agg #[.int .i64 p, .slice A' (k + 1) c'], .int .i64 0]) (by simp [results, Try.results64, go_sem, z0, z1]) rfl ⟨A', c', rfl, hoz, hbz⟩


set_option maxHeartbeats 3200000 in
theorem take_N (w : World) (b off n c : Nat) (p t : Int) (k : Nat) (xs : List Int) (h : ArgI w w.heap.size (some ⟨b, off, none⟩) n c xs) (hn : n ≤ 64) (hp : ((n : Nat) : Int) ≠ p) (hk : k ≤ n) (hck : k < c)
    (HS : Hid (∀ w, Calls Try.prog 61 #[.int .i64 t] w fun e w' => e = .returned (.bool true) ∧ w = w'))
    (HC : Hid (∀ w', Below w.heap.size w w' → Calls Try.prog 45 #[.agg #[.int .i64 p, .slice (some ⟨b, off, none⟩) n c]] w' (ValEnd w' (.int .i64 0))))
    (HX : Hid (∀ w', Below w.heap.size w w' → Calls Try.prog 74 #[.slice (some ⟨b, off, none⟩) n c, .int .i64 t] w' fun e w1 => e = .returned (.tuple #[.int .i64 (k : Int), .bool false]) ∧ w' = w1)) :
    Calls Try.prog 64 #[.agg #[.int .i64 p, .slice (some ⟨b, off, none⟩) n c], .int .i64 t] w fun e w' => ∃ A' c', e = .returned (.tuple #[.agg #[.int .i64 p, .slice A' (n + 1) c'], .int .i64 0]) ∧ OwnI w' w.heap.size A' (n + 1) c' (xs.take k ++ [t] ++ xs.drop k) ∧ Below w.heap.size w w' := by
  have hle := h.le
  have hcap := h.cap
  unfold maxLen at hcap
  have k0 : (0 : Int) ≤ k := by omega
  have kb : (k : Int) ≤ 64 := by omega
  have kc : (k : Int) ≤ ((c : Nat) : Int) := by omega
  have kc2 : k ≤ c := by omega
  have kn2 : k ≤ n := by omega
  have hck2 : ¬ c = k := by omega
  have qp : (((n : Nat) : Int) == p) = false := beq_eq_false_iff_ne.2 hp
  clear hp
  have H1 := Lib.hid (h.to_ (k := k) (by omega))
  have H2' := h.from_ (k := k) (by omega)
  rw [if_neg (by omega)] at H2'
  have H2 : Hid (ArgI w w.heap.size (some ⟨b, off + k, none⟩) (n - k) (c - k) (xs.drop k)) := Lib.hid (by have e : (⟨b, off, none⟩ : Addr).add k = ⟨b, off + k, none⟩ := (by unfold Addr.add; split <;> simp_all); simpa [e] using H2')
  clear H2'
  clear h
  go_enter Try.func64, Try.ntmps64
  go_wp2_with fail
  with_reducible refine (HS.out _).mono ?_
  rintro e w' ⟨rfl, rfl⟩
  go_wp2_with fail
  with_reducible refine (HC.out _ (((Below.refl w.heap.size w).alloc (Nat.le_refl _) _).alloc (by simp) _)).mono ?_
  rintro e w1 ⟨rfl, hb⟩
  have Kl := ((BlkL.new _ [.int .i64 p, .slice (some ⟨b, off, none⟩) n c] 93).alloc _).below hb
  have Kr := (BlkL.new _ [.int .i64 0, .slice none 0 0] 93).below hb
  try simp only [World.size_alloc] at Kl Kr
  have HB1 := Lib.hid ((((Below.refl w.heap.size w).alloc (by simp <;> omega) _).alloc (by simp <;> omega) _).trans (hb.mono (by simp <;> omega)))
  clear hb
  have cl0 := Kl.cell 0 _ rfl
  have fl0 := Kl.froz 0 (by simp)
  have cl1 := Kl.cell 1 _ rfl
  have fl1 := Kl.froz 1 (by simp)
  have zl := Kl.lt
  have cr0 := Kr.cell 0 _ rfl
  have fr0 := Kr.froz 0 (by simp)
  have cr1 := Kr.cell 1 _ rfl
  have fr1 := Kr.froz 1 (by simp)
  have zr := Kr.lt
  have HKl1 := Lib.hid Kl
  have HKr1 := Lib.hid Kr
  clear Kl Kr
  go_wp2_with fail
  with_reducible refine (HX.out _ HB1.out).mono ?_
  rintro e w' ⟨rfl, rfl⟩
  go_wp2_with fail
  have HBd := HB1
  have HP1 := Lib.hid ((H1.out.below HBd.out).more (B' := w1.heap.size) HBd.out.size)
  have HP2 := Lib.hid ((H2.out.below HBd.out).more (B' := w1.heap.size) HBd.out.size)
  have hz1 := HKr1.out.lt
  go_region_with ((with_reducible refine (concat_three_d w1 _ _ t (some ⟨b, off, none⟩) (some ⟨b, off + k, none⟩) k c (n - k) (c - k) (n + 1) (xs.take k) (xs.drop k) HP1.out HP2.out rfl (by simp) (by omega) (by omega)).mono ?_); rintro e w2 ⟨A', c', rfl, ho, hb⟩; have bl := HKl1.out.below hb; have br := HKr1.out.below hb; have HB2 := Lib.hid (HB1.out.trans (hb.mono HB1.out.size)); have HO := Lib.hid ho; clear ho hb cl0 cl1 fl0 fl1 cr0 cr1 fr0 fr1; have cl0 := bl.cell 0 _ rfl; have cl1 := bl.cell 1 _ rfl; have fl1 := bl.froz 1 (by simp); have cr0 := br.cell 0 _ rfl; have cr1 := br.cell 1 _ rfl; have fr0 := br.froz 0 (by simp); have fr1 := br.froz 1 (by simp); have HR2 := Lib.hid br; clear bl br)
  all_goals
    go_wp2
    have bz := (HR2.out.other w.heap.size 1 (.slice A' (n + 1) c') (by omega)).put2 (.int .i64 p) (.slice A' (n + 1) c')
    have z0 := bz.cell 0 _ rfl
    have z1 := bz.cell 1 _ rfl
    have hbz := below_put2 (HB2.out.setCell (p := ⟨w.heap.size, 1, none⟩) (Nat.le_refl _) (.slice A' (n + 1) c')) (b := w.heap.size + 1) (by omega) (.int .i64 p) (.slice A' (n + 1) c')
    have hoz := (((HO.out.other (b := w.heap.size) (i := 1) (v := .slice A' (n + 1) c') (by omega)).other (b := w.heap.size + 1) (i := 0) (v := .int .i64 p) (by omega)).other (b := w.heap.size + 1) (i := 1) (v := .slice A' (n + 1) c') (by omega)).mono (B' := w.heap.size) (by omega)
    clear bz cl0 cl1 fl1 cr0 cr1 fr0 fr1
    exact bodyPost_ret (v := .tuple #[.agg #[.int .i64 p, .slice A' (n + 1) c'], .int .i64 0]) (by simp [results, Try.results64, go_sem, z0, z1]) rfl ⟨A', c', rfl, hoz, hbz⟩


set_option maxHeartbeats 3200000 in
theorem give_E (w : World) (A : Option Addr) (p t : Int) (k : Nat) (xs : List Int) (h : ArgI w w.heap.size A (k + 1) (k + 1) xs) (hn : (k + 1) ≤ 64) 
    (HC : Hid (∀ w', Below w.heap.size w w' → Calls Try.prog 45 #[.agg #[.int .i64 p, .slice A (k + 1) (k + 1)]] w' (ValEnd w' (.int .i64 0))))
    (HX : Hid (∀ w', Below w.heap.size w w' → Calls Try.prog 74 #[.slice A (k + 1) (k + 1), .int .i64 t] w' fun e w1 => e = .returned (.tuple #[.int .i64 (k : Int), .bool true]) ∧ w' = w1)) :
    Calls Try.prog 67 #[.agg #[.int .i64 p, .slice A (k + 1) (k + 1)], .int .i64 t] w fun e w' => ∃ A' c', e = .returned (.tuple #[.agg #[.int .i64 p, .slice A' k c'], .int .i64 0]) ∧ OwnI w' w.heap.size A' k c' (xs.take k ++ xs.drop (k + 1)) ∧ Below w.heap.size w w' := by
  have hle := h.le
  have hcap := h.cap
  unfold maxLen at hcap
  have k0 : (0 : Int) ≤ k := by omega
  have kb : (k : Int) ≤ 64 := by omega
  have kc : (k : Int) ≤ (((k + 1) : Nat) : Int) := by omega
  have kc2 : k ≤ (k + 1) := by omega
  have kn2 : k ≤ (k + 1) := by omega
  have kw : IntKind.i64.wrap ((k : Int) + 1) = (k : Int) + 1 := IntWalk.i64_in _ (by omega)
  have kw0 : (0 : Int) ≤ (k : Int) + 1 := by omega
  have ke : (k : Int) ≤ (k : Int) + 1 := by omega
  have kwn : ((k : Int) + 1).toNat = k + 1 := by omega
  have kd : ((k : Int) + 1) ≤ (((k + 1) : Nat) : Int) := by omega
  have kd2 : k + 1 ≤ (k + 1) := by omega
  have H1 := Lib.hid (h.to_ (k := k) (by omega))
  have H2' := h.from_ (k := (k + 1)) (by omega)
  rw [if_pos rfl, Nat.sub_self] at H2'
  have H2 := Lib.hid H2'
  clear H2'
  clear h
  go_enter Try.func67, Try.ntmps67
  go_wp2_with fail
  with_reducible refine (HC.out _ (((Below.refl w.heap.size w).alloc (Nat.le_refl _) _).alloc (by simp) _)).mono ?_
  rintro e w1 ⟨rfl, hb⟩
  have Kl := ((BlkL.new _ [.int .i64 p, .slice A (k + 1) (k + 1)] 93).alloc _).below hb
  have Kr := (BlkL.new _ [.int .i64 0, .slice none 0 0] 93).below hb
  try simp only [World.size_alloc] at Kl Kr
  have HB1 := Lib.hid ((((Below.refl w.heap.size w).alloc (by simp <;> omega) _).alloc (by simp <;> omega) _).trans (hb.mono (by simp <;> omega)))
  clear hb
  have cl0 := Kl.cell 0 _ rfl
  have fl0 := Kl.froz 0 (by simp)
  have cl1 := Kl.cell 1 _ rfl
  have fl1 := Kl.froz 1 (by simp)
  have zl := Kl.lt
  have cr0 := Kr.cell 0 _ rfl
  have fr0 := Kr.froz 0 (by simp)
  have cr1 := Kr.cell 1 _ rfl
  have fr1 := Kr.froz 1 (by simp)
  have zr := Kr.lt
  have HKl1 := Lib.hid Kl
  have HKr1 := Lib.hid Kr
  clear Kl Kr
  go_wp2_with fail
  with_reducible refine (HX.out _ HB1.out).mono ?_
  rintro e w' ⟨rfl, rfl⟩
  go_wp2_with fail
  have HBd := HB1
  have HP1 := Lib.hid ((H1.out.below HBd.out).more (B' := w1.heap.size) HBd.out.size)
  have HP2 := Lib.hid ((H2.out.below HBd.out).more (B' := w1.heap.size) HBd.out.size)
  have hz1 := HKr1.out.lt
  go_region_with ((with_reducible refine (concat_two_d w1 _ A A k (k + 1) 0 0 k (xs.take k) (xs.drop (k + 1)) HP1.out HP2.out rfl (by omega) (by omega)).mono ?_); rintro e w2 ⟨A', c', rfl, ho, hb⟩; have bl := HKl1.out.below hb; have br := HKr1.out.below hb; have HB2 := Lib.hid (HB1.out.trans (hb.mono HB1.out.size)); have HO := Lib.hid ho; clear ho hb cl0 cl1 fl0 fl1 cr0 cr1 fr0 fr1; have cl0 := bl.cell 0 _ rfl; have cl1 := bl.cell 1 _ rfl; have fl1 := bl.froz 1 (by simp); have cr0 := br.cell 0 _ rfl; have cr1 := br.cell 1 _ rfl; have fr0 := br.froz 0 (by simp); have fr1 := br.froz 1 (by simp); have HR2 := Lib.hid br; clear bl br)
  all_goals
    go_wp2
    have bz := (HR2.out.other w.heap.size 1 (.slice A' k c') (by omega)).put2 (.int .i64 p) (.slice A' k c')
    have z0 := bz.cell 0 _ rfl
    have z1 := bz.cell 1 _ rfl
    have hbz := below_put2 (HB2.out.setCell (p := ⟨w.heap.size, 1, none⟩) (Nat.le_refl _) (.slice A' k c')) (b := w.heap.size + 1) (by omega) (.int .i64 p) (.slice A' k c')
    have hoz := (((HO.out.other (b := w.heap.size) (i := 1) (v := .slice A' k c') (by omega)).other (b := w.heap.size + 1) (i := 0) (v := .int .i64 p) (by omega)).other (b := w.heap.size + 1) (i := 1) (v := .slice A' k c') (by omega)).mono (B' := w.heap.size) (by omega)
    clear bz cl0 cl1 fl1 cr0 cr1 fr0 fr1
    exact bodyPost_ret (v := .tuple #[.agg #[.int .i64 p, .slice A' k c'], .int .i64 0]) (by simp [results, Try.results67, go_sem, z0, z1]) rfl ⟨A', c', rfl, hoz, hbz⟩


set_option maxHeartbeats 3200000 in
theorem give_N (w : World) (b off n c : Nat) (p t : Int) (k : Nat) (xs : List Int) (h : ArgI w w.heap.size (some ⟨b, off, none⟩) n c xs) (hn : n ≤ 64)  (hk : k + 1 ≤ n) (hck : k + 1 < c)
    (HC : Hid (∀ w', Below w.heap.size w w' → Calls Try.prog 45 #[.agg #[.int .i64 p, .slice (some ⟨b, off, none⟩) n c]] w' (ValEnd w' (.int .i64 0))))
    (HX : Hid (∀ w', Below w.heap.size w w' → Calls Try.prog 74 #[.slice (some ⟨b, off, none⟩) n c, .int .i64 t] w' fun e w1 => e = .returned (.tuple #[.int .i64 (k : Int), .bool true]) ∧ w' = w1)) :
    Calls Try.prog 67 #[.agg #[.int .i64 p, .slice (some ⟨b, off, none⟩) n c], .int .i64 t] w fun e w' => ∃ A' c', e = .returned (.tuple #[.agg #[.int .i64 p, .slice A' (n - 1) c'], .int .i64 0]) ∧ OwnI w' w.heap.size A' (n - 1) c' (xs.take k ++ xs.drop (k + 1)) ∧ Below w.heap.size w w' := by
  have hle := h.le
  have hcap := h.cap
  unfold maxLen at hcap
  have k0 : (0 : Int) ≤ k := by omega
  have kb : (k : Int) ≤ 64 := by omega
  have kc : (k : Int) ≤ ((c : Nat) : Int) := by omega
  have kc2 : k ≤ c := by omega
  have kn2 : k ≤ n := by omega
  have hck2 : ¬ c = (k + 1) := by omega
  have kw : IntKind.i64.wrap ((k : Int) + 1) = (k : Int) + 1 := IntWalk.i64_in _ (by omega)
  have kw0 : (0 : Int) ≤ (k : Int) + 1 := by omega
  have ke : (k : Int) ≤ (k : Int) + 1 := by omega
  have kwn : ((k : Int) + 1).toNat = k + 1 := by omega
  have kd : ((k : Int) + 1) ≤ ((n : Nat) : Int) := by omega
  have kd2 : k + 1 ≤ n := by omega
  have H1 := Lib.hid (h.to_ (k := k) (by omega))
  have H2' := h.from_ (k := (k + 1)) (by omega)
  rw [if_neg (by omega)] at H2'
  have H2 : Hid (ArgI w w.heap.size (some ⟨b, off + (k + 1), none⟩) (n - (k + 1)) (c - (k + 1)) (xs.drop (k + 1))) := Lib.hid (by have e : (⟨b, off, none⟩ : Addr).add (k + 1) = ⟨b, off + (k + 1), none⟩ := (by unfold Addr.add; split <;> simp_all); simpa [e] using H2')
  clear H2'
  clear h
  go_enter Try.func67, Try.ntmps67
  go_wp2_with fail
  with_reducible refine (HC.out _ (((Below.refl w.heap.size w).alloc (Nat.le_refl _) _).alloc (by simp) _)).mono ?_
  rintro e w1 ⟨rfl, hb⟩
  have Kl := ((BlkL.new _ [.int .i64 p, .slice (some ⟨b, off, none⟩) n c] 93).alloc _).below hb
  have Kr := (BlkL.new _ [.int .i64 0, .slice none 0 0] 93).below hb
  try simp only [World.size_alloc] at Kl Kr
  have HB1 := Lib.hid ((((Below.refl w.heap.size w).alloc (by simp <;> omega) _).alloc (by simp <;> omega) _).trans (hb.mono (by simp <;> omega)))
  clear hb
  have cl0 := Kl.cell 0 _ rfl
  have fl0 := Kl.froz 0 (by simp)
  have cl1 := Kl.cell 1 _ rfl
  have fl1 := Kl.froz 1 (by simp)
  have zl := Kl.lt
  have cr0 := Kr.cell 0 _ rfl
  have fr0 := Kr.froz 0 (by simp)
  have cr1 := Kr.cell 1 _ rfl
  have fr1 := Kr.froz 1 (by simp)
  have zr := Kr.lt
  have HKl1 := Lib.hid Kl
  have HKr1 := Lib.hid Kr
  clear Kl Kr
  go_wp2_with fail
  with_reducible refine (HX.out _ HB1.out).mono ?_
  rintro e w' ⟨rfl, rfl⟩
  go_wp2_with fail
  have HBd := HB1
  have HP1 := Lib.hid ((H1.out.below HBd.out).more (B' := w1.heap.size) HBd.out.size)
  have HP2 := Lib.hid ((H2.out.below HBd.out).more (B' := w1.heap.size) HBd.out.size)
  have hz1 := HKr1.out.lt
  go_region_with ((with_reducible refine (concat_two_d w1 _ (some ⟨b, off, none⟩) (some ⟨b, off + (k + 1), none⟩) k c (n - (k + 1)) (c - (k + 1)) (n - 1) (xs.take k) (xs.drop (k + 1)) HP1.out HP2.out rfl (by omega) (by omega)).mono ?_); rintro e w2 ⟨A', c', rfl, ho, hb⟩; have bl := HKl1.out.below hb; have br := HKr1.out.below hb; have HB2 := Lib.hid (HB1.out.trans (hb.mono HB1.out.size)); have HO := Lib.hid ho; clear ho hb cl0 cl1 fl0 fl1 cr0 cr1 fr0 fr1; have cl0 := bl.cell 0 _ rfl; have cl1 := bl.cell 1 _ rfl; have fl1 := bl.froz 1 (by simp); have cr0 := br.cell 0 _ rfl; have cr1 := br.cell 1 _ rfl; have fr0 := br.froz 0 (by simp); have fr1 := br.froz 1 (by simp); have HR2 := Lib.hid br; clear bl br)
  all_goals
    go_wp2
    have bz := (HR2.out.other w.heap.size 1 (.slice A' (n - 1) c') (by omega)).put2 (.int .i64 p) (.slice A' (n - 1) c')
    have z0 := bz.cell 0 _ rfl
    have z1 := bz.cell 1 _ rfl
    have hbz := below_put2 (HB2.out.setCell (p := ⟨w.heap.size, 1, none⟩) (Nat.le_refl _) (.slice A' (n - 1) c')) (b := w.heap.size + 1) (by omega) (.int .i64 p) (.slice A' (n - 1) c')
    have hoz := (((HO.out.other (b := w.heap.size) (i := 1) (v := .slice A' (n - 1) c') (by omega)).other (b := w.heap.size + 1) (i := 0) (v := .int .i64 p) (by omega)).other (b := w.heap.size + 1) (i := 1) (v := .slice A' (n - 1) c') (by omega)).mono (B' := w.heap.size) (by omega)
    clear bz cl0 cl1 fl1 cr0 cr1 fr0 fr1
    exact bodyPost_ret (v := .tuple #[.agg #[.int .i64 p, .slice A' (n - 1) c'], .int .i64 0]) (by simp [results, Try.results67, go_sem, z0, z1]) rfl ⟨A', c', rfl, hoz, hbz⟩


end Go.Proofs.Ytnkecjjfbllgdaa
