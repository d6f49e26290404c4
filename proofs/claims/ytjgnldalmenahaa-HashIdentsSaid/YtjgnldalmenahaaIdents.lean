/- The law HashIdents. -/
import Derived.Test.YtjgnldalmenahaaAwake2
namespace Go.Proofs.Ytjgnldalmenahaa
open Go.RowKit

/-- What Ident answers, and its error. -/
def idV (p : Int) (zs : List Nat) : List Nat × Int := if p < 0 ∨ 32 ≤ p then ([], 1) else if 255 < zs.length then ([], 2) else (p.toNat :: zs, 0)
/-- What Parts answers, and its error. -/
def partsV : List Nat → Int × List Nat × Int
  | [] => (0, [], 3)
  | x :: zs => if 255 < zs.length ∨ 32 ≤ x then (0, [], 3) else ((x : Int), zs, 0)

theorem Arg.grow {w w' : World} {n c : Nat} {A : Option Addr} {zs : List Nat} (h : Arg w w.heap.size A n c zs) (hb : Below w.heap.size w w') : Arg w' w'.heap.size A n c zs := (h.below hb).more hb.size

def IdGen (w : World) (bs : List Nat) (x : Int) (e : Ending) (w' : World) : Prop :=
  ∃ A c, e = .returned (.tuple #[.slice A bs.length c, .int .i64 x]) ∧ Arg w' w'.heap.size A bs.length c bs ∧ Below w.heap.size w w'
def PartsGen (w : World) (p : Int) (ks : List Nat) (y : Int) (e : Ending) (w' : World) : Prop :=
  ∃ A c, e = .returned (.tuple #[.int .i64 p, .slice A ks.length c, .int .i64 y]) ∧ Arg w' w'.heap.size A ks.length c ks ∧ Below w.heap.size w w'

theorem IdEnd.gen {w : World} {bs : List Nat} {n : Nat} (hn : bs.length = n) {e : Ending} {w' : World} (h : IdEnd w bs n e w') : IdGen w bs 0 e w' := by
  obtain ⟨A, c, he, ho, hb⟩ := h
  subst hn
  exact ⟨A, c, he, ho.arg, hb⟩
theorem NoId.gen {w : World} {x : Int} {e : Ending} {w' : World} (h : NoId w x e w') : IdGen w [] x e w' := by
  obtain ⟨he, rfl⟩ := h
  exact ⟨none, 0, he, Arg.nil _ _, Below.refl _ _⟩
theorem KeyEnd.gen {w : World} {p : Nat} {ks : List Nat} {n : Nat} (hn : ks.length = n) {e : Ending} {w' : World} (h : KeyEnd w p ks n e w') : PartsGen w p ks 0 e w' := by
  obtain ⟨A, c, he, ho, hb⟩ := h
  subst hn
  exact ⟨A, c, he, ho.arg, hb⟩
theorem NoKey.gen {w : World} {e : Ending} {w' : World} (h : NoKey w e w') : PartsGen w 0 [] 3 e w' := by
  obtain ⟨he, rfl⟩ := h
  exact ⟨none, 0, he, Arg.nil _ _, Below.refl _ _⟩

theorem ident_gen (w : World) (A : Option Addr) (p : Int) (n c : Nat) (zs bs : List Nat) (x : Int) (h : Arg w w.heap.size A n c zs) (hv : idV p zs = (bs, x)) :
    Calls Try.prog 36 #[.int .i64 p, .slice A n c] w (IdGen w bs x) := by
  unfold idV at hv
  have hl := h.len
  by_cases h1 : p < 0 ∨ 32 ≤ p
  · rw [if_pos h1] at hv
    obtain ⟨rfl, rfl⟩ := Prod.mk.inj hv
    exact (ident_arg w p A n c h1).mono fun _ _ h => h.gen
  · rw [if_neg h1] at hv
    by_cases h2 : 255 < zs.length
    · rw [if_pos h2] at hv
      obtain ⟨rfl, rfl⟩ := Prod.mk.inj hv
      exact (ident_long w p A n c (by omega) (by omega) (by omega)).mono fun _ _ h => h.gen
    · rw [if_neg h2] at hv
      obtain ⟨rfl, rfl⟩ := Prod.mk.inj hv
      obtain ⟨q, rfl⟩ := Int.eq_ofNat_of_zero_le (show 0 ≤ p by omega)
      exact (ident_ok w w.heap.size A q n c zs h (Nat.le_refl _) (by omega) (by omega)).mono fun _ _ h => IdEnd.gen (n := n + 1) (by simp [hl]) (by rw [Int.toNat_natCast]; exact h)

theorem docIdent_gen (w : World) (A : Option Addr) (p : Int) (n c : Nat) (zs bs : List Nat) (x : Int) (h : Arg w w.heap.size A n c zs) (hv : idV p zs = (bs, x)) :
    Calls Try.prog 38 #[.int .i64 p, .slice A n c] w (IdGen w bs x) := by
  unfold idV at hv
  have hl := h.len
  by_cases h1 : p < 0 ∨ 32 ≤ p
  · rw [if_pos h1] at hv
    obtain ⟨rfl, rfl⟩ := Prod.mk.inj hv
    exact (docIdent_arg w p A n c h1).mono fun _ _ h => h.gen
  · rw [if_neg h1] at hv
    by_cases h2 : 255 < zs.length
    · rw [if_pos h2] at hv
      obtain ⟨rfl, rfl⟩ := Prod.mk.inj hv
      exact (docIdent_long w p A n c (by omega) (by omega) (by omega)).mono fun _ _ h => h.gen
    · rw [if_neg h2] at hv
      obtain ⟨rfl, rfl⟩ := Prod.mk.inj hv
      obtain ⟨q, rfl⟩ := Int.eq_ofNat_of_zero_le (show 0 ≤ p by omega)
      exact (docIdent_ok w w.heap.size A q n c zs h (Nat.le_refl _) (by omega) (by omega)).mono fun _ _ h => IdEnd.gen (n := n + 1) (by simp [hl]) (by rw [Int.toNat_natCast]; exact h)

theorem parts_gen (w : World) (A : Option Addr) (n c : Nat) (id ks : List Nat) (p y : Int) (h : Arg w w.heap.size A n c id) (hv : partsV id = (p, ks, y)) :
    Calls Try.prog 39 #[.slice A n c] w (PartsGen w p ks y) := by
  have hl := h.len
  rcases id with _ | ⟨x, zs⟩
  · simp only [partsV, Prod.mk.injEq] at hv
    obtain ⟨rfl, rfl, rfl⟩ := hv
    obtain rfl : n = 0 := by simpa using hl.symm
    exact (parts_empty w A c).mono fun _ _ h => h.gen
  · obtain ⟨m, rfl⟩ : ∃ m, n = m + 1 := ⟨n - 1, by simp at hl; omega⟩
    have hm : zs.length = m := by simpa using hl
    simp only [partsV] at hv
    by_cases h1 : 255 < zs.length
    · rw [if_pos (.inl h1)] at hv
      simp only [Prod.mk.injEq] at hv
      obtain ⟨rfl, rfl, rfl⟩ := hv
      exact (parts_long w A (m + 1) c (by omega)).mono fun _ _ h => h.gen
    · by_cases h2 : 32 ≤ x
      · rw [if_pos (.inr h2)] at hv
        simp only [Prod.mk.injEq] at hv
        obtain ⟨rfl, rfl, rfl⟩ := hv
        exact (parts_first w w.heap.size A m c x zs h (by omega) h2).mono fun _ _ h => h.gen
      · rw [if_neg (by omega)] at hv
        simp only [Prod.mk.injEq] at hv
        obtain ⟨rfl, rfl, rfl⟩ := hv
        exact (parts_ok w w.heap.size A m c x zs h (Nat.le_refl _) (by omega) (by omega)).mono fun _ _ h => KeyEnd.gen hm h

theorem docParts_gen (w : World) (A : Option Addr) (n c : Nat) (id ks : List Nat) (p y : Int) (h : Arg w w.heap.size A n c id) (hv : partsV id = (p, ks, y)) :
    Calls Try.prog 40 #[.slice A n c] w (PartsGen w p ks y) := by
  have hl := h.len
  rcases id with _ | ⟨x, zs⟩
  · simp only [partsV, Prod.mk.injEq] at hv
    obtain ⟨rfl, rfl, rfl⟩ := hv
    obtain rfl : n = 0 := by simpa using hl.symm
    exact (docParts_empty w A c).mono fun _ _ h => h.gen
  · obtain ⟨m, rfl⟩ : ∃ m, n = m + 1 := ⟨n - 1, by simp at hl; omega⟩
    have hm : zs.length = m := by simpa using hl
    simp only [partsV] at hv
    by_cases h1 : 255 < zs.length
    · rw [if_pos (.inl h1)] at hv
      simp only [Prod.mk.injEq] at hv
      obtain ⟨rfl, rfl, rfl⟩ := hv
      exact (docParts_long w A (m + 1) c (by omega)).mono fun _ _ h => h.gen
    · by_cases h2 : 32 ≤ x
      · rw [if_pos (.inr h2)] at hv
        simp only [Prod.mk.injEq] at hv
        obtain ⟨rfl, rfl, rfl⟩ := hv
        exact (docParts_first w w.heap.size A m c x zs h (by omega) h2).mono fun _ _ h => h.gen
      · rw [if_neg (by omega)] at hv
        simp only [Prod.mk.injEq] at hv
        obtain ⟨rfl, rfl, rfl⟩ := hv
        exact (docParts_ok w w.heap.size A m c x zs h (Nat.le_refl _) (by omega) (by omega)).mono fun _ _ h => KeyEnd.gen hm h

theorem twin_gen (w : World) (A : Option Addr) (n c : Nat) (zs : List Nat) (h : Arg w w.heap.size A n c zs) (hn : n ≤ 140737488355328) :
    Calls Try.prog 37 #[.slice A n c] w fun e w' => ∃ A' c', e = .returned (.slice A' n c') ∧ Arg w' w'.heap.size A' n c' zs ∧ Below w.heap.size w w' :=
  (twin_any w w.heap.size A n c zs h (Nat.le_refl _) hn).mono fun _ _ ⟨A', c', e, ho, hb⟩ => ⟨A', c', e, ho.arg, hb⟩
theorem same_gen (w : World) (A A' : Option Addr) (n c m d : Nat) (xs : List Nat) (h : Arg w w.heap.size A n c xs) (h' : Arg w w.heap.size A' m d xs) :
    Calls Try.prog 41 #[.slice A n c, .slice A' m d] w fun e w' => e = .returned (.bool true) ∧ Below w.heap.size w w' :=
  (same_any w _ _ A A' n c m d xs xs true (by simp) h h').mono fun _ _ ⟨e, t, hw⟩ => ⟨e, by rw [hw]; exact below_drews (Below.refl _ _) t⟩

theorem idV_ok {p : Int} {zs bs : List Nat} (h : idV p zs = (bs, 0)) : partsV bs = (p, zs, 0) := by
  unfold idV at h
  split at h
  · simp at h
  · rename_i h1
    split at h
    · simp at h
    · rename_i h2
      obtain ⟨rfl, _⟩ := Prod.mk.inj h
      simp only [partsV]
      rw [if_neg (by omega)]
      simp only [Prod.mk.injEq, and_true]
      omega
theorem idV_x {p : Int} {zs bs : List Nat} {x : Int} (h : idV p zs = (bs, x)) : x = 0 ∨ x = 1 ∨ x = 2 := by
  unfold idV at h
  split at h
  · obtain ⟨_, rfl⟩ := Prod.mk.inj h; simp
  · split at h
    · obtain ⟨_, rfl⟩ := Prod.mk.inj h; simp
    · obtain ⟨_, rfl⟩ := Prod.mk.inj h; simp
theorem partsV_y {id ks : List Nat} {p y : Int} (h : partsV id = (p, ks, y)) : y = 3 ∨ y = 0 ∧ idV p ks = (id, 0) := by
  rcases id with _ | ⟨x, zs⟩
  · simp only [partsV, Prod.mk.injEq] at h
    exact .inl h.2.2.symm
  · simp only [partsV] at h
    split at h
    · simp only [Prod.mk.injEq] at h
      exact .inl h.2.2.symm
    · rename_i h1
      simp only [Prod.mk.injEq] at h
      obtain ⟨rfl, rfl, rfl⟩ := h
      refine .inr ⟨rfl, ?_⟩
      unfold idV
      rw [if_neg (by omega), if_neg (by omega)]
      simp

set_option maxRecDepth 100000 in
set_option maxHeartbeats 1600000 in
theorem idents_oo (w0 : World) (pol : Int) (K I : Option Addr) (n c m d : Nat) (zs id bs ks : List Nat) (p : Int) (FK : Hid (Arg w0 w0.heap.size K n c zs)) (FI : Hid (Arg w0 w0.heap.size I m d id)) (hn : n ≤ 140737488355328) (hm : m ≤ 140737488355328)
    (HI : Hid (idV pol zs = (bs, 0))) (HP : Hid (partsV id = (p, ks, 0))) :
    Calls Try.prog 10 #[.int .i64 pol, .slice K n c, .slice I m d] w0 fun e w' => e = .returned (.bool true) ∧ Below w0.heap.size w0 w' := by
  have HB0 : Hid (Below w0.heap.size w0 w0) := Below.refl _ _
  have HI2 := Lib.hid (idV_ok HI.out)
  have HP2 : Hid (idV p ks = (id, 0)) := by
    rcases partsV_y HP.out with h | h
    · omega
    · exact h.2
  go_enter Try.func10, Try.ntmps10
  go_wp2_with fail
  refine (twin_gen _ K n c zs FK.out hn).mono ?_
  rintro e w1 ⟨T1, tc1, rfl, ht1, hb1⟩
  have HB1 := Lib.hid (HB0.out.trans (hb1.mono HB0.out.size))
  have FK_ := Lib.hid (FK.out.grow hb1)
  clear FK
  have FK := FK_
  clear FK_
  have FI_ := Lib.hid (FI.out.grow hb1)
  clear FI
  have FI := FI_
  clear FI_
  have FT1 := Lib.hid ht1
  clear ht1
  clear hb1 HB0
  go_wp2_with fail
  refine (ident_gen _ T1 pol n tc1 zs bs 0 FT1.out HI.out).mono ?_
  rintro e w2 ⟨A1, ac1, rfl, ha1, hb2⟩
  have HB2 := Lib.hid (HB1.out.trans (hb2.mono HB1.out.size))
  have FK_ := Lib.hid (FK.out.grow hb2)
  clear FK
  have FK := FK_
  clear FK_
  have FI_ := Lib.hid (FI.out.grow hb2)
  clear FI
  have FI := FI_
  clear FI_
  have FT1_ := Lib.hid (FT1.out.grow hb2)
  clear FT1
  have FT1 := FT1_
  clear FT1_
  have FA1 := Lib.hid ha1
  clear ha1
  clear hb2 HB1
  go_wp2_with fail
  refine (docIdent_gen _ K pol n c zs bs 0 FK.out HI.out).mono ?_
  rintro e w3 ⟨A2, ac2, rfl, ha2, hb3⟩
  have HB3 := Lib.hid (HB2.out.trans (hb3.mono HB2.out.size))
  have FK_ := Lib.hid (FK.out.grow hb3)
  clear FK
  have FK := FK_
  clear FK_
  have FI_ := Lib.hid (FI.out.grow hb3)
  clear FI
  have FI := FI_
  clear FI_
  have FT1_ := Lib.hid (FT1.out.grow hb3)
  clear FT1
  have FT1 := FT1_
  clear FT1_
  have FA1_ := Lib.hid (FA1.out.grow hb3)
  clear FA1
  have FA1 := FA1_
  clear FA1_
  have FA2 := Lib.hid ha2
  clear ha2
  clear hb3 HB2
  go_wp2_with fail
  refine (twin_gen _ I m d id FI.out hm).mono ?_
  rintro e w4 ⟨T2, tc2, rfl, ht2, hb4⟩
  have HB4 := Lib.hid (HB3.out.trans (hb4.mono HB3.out.size))
  have FK_ := Lib.hid (FK.out.grow hb4)
  clear FK
  have FK := FK_
  clear FK_
  have FI_ := Lib.hid (FI.out.grow hb4)
  clear FI
  have FI := FI_
  clear FI_
  have FT1_ := Lib.hid (FT1.out.grow hb4)
  clear FT1
  have FT1 := FT1_
  clear FT1_
  have FA1_ := Lib.hid (FA1.out.grow hb4)
  clear FA1
  have FA1 := FA1_
  clear FA1_
  have FA2_ := Lib.hid (FA2.out.grow hb4)
  clear FA2
  have FA2 := FA2_
  clear FA2_
  have FT2 := Lib.hid ht2
  clear ht2
  clear hb4 HB3
  go_wp2_with fail
  refine (parts_gen _ T2 m tc2 id ks p 0 FT2.out HP.out).mono ?_
  rintro e w5 ⟨K1, kc1, rfl, hk1, hb5⟩
  have HB5 := Lib.hid (HB4.out.trans (hb5.mono HB4.out.size))
  have FK_ := Lib.hid (FK.out.grow hb5)
  clear FK
  have FK := FK_
  clear FK_
  have FI_ := Lib.hid (FI.out.grow hb5)
  clear FI
  have FI := FI_
  clear FI_
  have FT1_ := Lib.hid (FT1.out.grow hb5)
  clear FT1
  have FT1 := FT1_
  clear FT1_
  have FA1_ := Lib.hid (FA1.out.grow hb5)
  clear FA1
  have FA1 := FA1_
  clear FA1_
  have FA2_ := Lib.hid (FA2.out.grow hb5)
  clear FA2
  have FA2 := FA2_
  clear FA2_
  have FT2_ := Lib.hid (FT2.out.grow hb5)
  clear FT2
  have FT2 := FT2_
  clear FT2_
  have FK1 := Lib.hid hk1
  clear hk1
  clear hb5 HB4
  go_wp2_with fail
  refine (docParts_gen _ I m d id ks p 0 FI.out HP.out).mono ?_
  rintro e w6 ⟨K2, kc2, rfl, hk2, hb6⟩
  have HB6 := Lib.hid (HB5.out.trans (hb6.mono HB5.out.size))
  have FK_ := Lib.hid (FK.out.grow hb6)
  clear FK
  have FK := FK_
  clear FK_
  have FI_ := Lib.hid (FI.out.grow hb6)
  clear FI
  have FI := FI_
  clear FI_
  have FT1_ := Lib.hid (FT1.out.grow hb6)
  clear FT1
  have FT1 := FT1_
  clear FT1_
  have FA1_ := Lib.hid (FA1.out.grow hb6)
  clear FA1
  have FA1 := FA1_
  clear FA1_
  have FA2_ := Lib.hid (FA2.out.grow hb6)
  clear FA2
  have FA2 := FA2_
  clear FA2_
  have FT2_ := Lib.hid (FT2.out.grow hb6)
  clear FT2
  have FT2 := FT2_
  clear FT2_
  have FK1_ := Lib.hid (FK1.out.grow hb6)
  clear FK1
  have FK1 := FK1_
  clear FK1_
  have FK2 := Lib.hid hk2
  clear hk2
  clear hb6 HB5
  go_wp2_with fail
  refine (awake2_any _).mono ?_
  rintro e w7 ⟨rfl, hb7⟩
  have HB7 := Lib.hid (HB6.out.trans (hb7.mono HB6.out.size))
  have FK_ := Lib.hid (FK.out.grow hb7)
  clear FK
  have FK := FK_
  clear FK_
  have FI_ := Lib.hid (FI.out.grow hb7)
  clear FI
  have FI := FI_
  clear FI_
  have FT1_ := Lib.hid (FT1.out.grow hb7)
  clear FT1
  have FT1 := FT1_
  clear FT1_
  have FA1_ := Lib.hid (FA1.out.grow hb7)
  clear FA1
  have FA1 := FA1_
  clear FA1_
  have FA2_ := Lib.hid (FA2.out.grow hb7)
  clear FA2
  have FA2 := FA2_
  clear FA2_
  have FT2_ := Lib.hid (FT2.out.grow hb7)
  clear FT2
  have FT2 := FT2_
  clear FT2_
  have FK1_ := Lib.hid (FK1.out.grow hb7)
  clear FK1
  have FK1 := FK1_
  clear FK1_
  have FK2_ := Lib.hid (FK2.out.grow hb7)
  clear FK2
  have FK2 := FK2_
  clear FK2_
  clear hb7 HB6
  go_wp2_with fail
  refine (same_gen _ A1 A2 _ _ _ _ bs FA1.out FA2.out).mono ?_
  rintro e w8 ⟨rfl, hb8⟩
  have HB8 := Lib.hid (HB7.out.trans (hb8.mono HB7.out.size))
  have FK_ := Lib.hid (FK.out.grow hb8)
  clear FK
  have FK := FK_
  clear FK_
  have FI_ := Lib.hid (FI.out.grow hb8)
  clear FI
  have FI := FI_
  clear FI_
  have FT1_ := Lib.hid (FT1.out.grow hb8)
  clear FT1
  have FT1 := FT1_
  clear FT1_
  have FA1_ := Lib.hid (FA1.out.grow hb8)
  clear FA1
  have FA1 := FA1_
  clear FA1_
  have FA2_ := Lib.hid (FA2.out.grow hb8)
  clear FA2
  have FA2 := FA2_
  clear FA2_
  have FT2_ := Lib.hid (FT2.out.grow hb8)
  clear FT2
  have FT2 := FT2_
  clear FT2_
  have FK1_ := Lib.hid (FK1.out.grow hb8)
  clear FK1
  have FK1 := FK1_
  clear FK1_
  have FK2_ := Lib.hid (FK2.out.grow hb8)
  clear FK2
  have FK2 := FK2_
  clear FK2_
  clear hb8 HB7
  go_wp2_with fail
  refine (same_gen _ K1 K2 _ _ _ _ ks FK1.out FK2.out).mono ?_
  rintro e w9 ⟨rfl, hb9⟩
  have HB9 := Lib.hid (HB8.out.trans (hb9.mono HB8.out.size))
  have FK_ := Lib.hid (FK.out.grow hb9)
  clear FK
  have FK := FK_
  clear FK_
  have FI_ := Lib.hid (FI.out.grow hb9)
  clear FI
  have FI := FI_
  clear FI_
  have FT1_ := Lib.hid (FT1.out.grow hb9)
  clear FT1
  have FT1 := FT1_
  clear FT1_
  have FA1_ := Lib.hid (FA1.out.grow hb9)
  clear FA1
  have FA1 := FA1_
  clear FA1_
  have FA2_ := Lib.hid (FA2.out.grow hb9)
  clear FA2
  have FA2 := FA2_
  clear FA2_
  have FT2_ := Lib.hid (FT2.out.grow hb9)
  clear FT2
  have FT2 := FT2_
  clear FT2_
  have FK1_ := Lib.hid (FK1.out.grow hb9)
  clear FK1
  have FK1 := FK1_
  clear FK1_
  have FK2_ := Lib.hid (FK2.out.grow hb9)
  clear FK2
  have FK2 := FK2_
  clear FK2_
  clear hb9 HB8
  go_wp2_with fail
  refine (parts_gen _ A1 _ ac1 bs zs pol 0 FA1.out HI2.out).mono ?_
  rintro e w10 ⟨M1, mc1, rfl, hm1, hb10⟩
  have HB10 := Lib.hid (HB9.out.trans (hb10.mono HB9.out.size))
  have FK_ := Lib.hid (FK.out.grow hb10)
  clear FK
  have FK := FK_
  clear FK_
  have FI_ := Lib.hid (FI.out.grow hb10)
  clear FI
  have FI := FI_
  clear FI_
  have FT1_ := Lib.hid (FT1.out.grow hb10)
  clear FT1
  have FT1 := FT1_
  clear FT1_
  have FA1_ := Lib.hid (FA1.out.grow hb10)
  clear FA1
  have FA1 := FA1_
  clear FA1_
  have FA2_ := Lib.hid (FA2.out.grow hb10)
  clear FA2
  have FA2 := FA2_
  clear FA2_
  have FT2_ := Lib.hid (FT2.out.grow hb10)
  clear FT2
  have FT2 := FT2_
  clear FT2_
  have FK1_ := Lib.hid (FK1.out.grow hb10)
  clear FK1
  have FK1 := FK1_
  clear FK1_
  have FK2_ := Lib.hid (FK2.out.grow hb10)
  clear FK2
  have FK2 := FK2_
  clear FK2_
  have FM1 := Lib.hid hm1
  clear hm1
  clear hb10 HB9
  go_wp2_with fail
  refine (same_gen _ M1 K _ _ _ _ zs FM1.out FK.out).mono ?_
  rintro e w11 ⟨rfl, hb11⟩
  have HB11 := Lib.hid (HB10.out.trans (hb11.mono HB10.out.size))
  have FK_ := Lib.hid (FK.out.grow hb11)
  clear FK
  have FK := FK_
  clear FK_
  have FI_ := Lib.hid (FI.out.grow hb11)
  clear FI
  have FI := FI_
  clear FI_
  have FT1_ := Lib.hid (FT1.out.grow hb11)
  clear FT1
  have FT1 := FT1_
  clear FT1_
  have FA1_ := Lib.hid (FA1.out.grow hb11)
  clear FA1
  have FA1 := FA1_
  clear FA1_
  have FA2_ := Lib.hid (FA2.out.grow hb11)
  clear FA2
  have FA2 := FA2_
  clear FA2_
  have FT2_ := Lib.hid (FT2.out.grow hb11)
  clear FT2
  have FT2 := FT2_
  clear FT2_
  have FK1_ := Lib.hid (FK1.out.grow hb11)
  clear FK1
  have FK1 := FK1_
  clear FK1_
  have FK2_ := Lib.hid (FK2.out.grow hb11)
  clear FK2
  have FK2 := FK2_
  clear FK2_
  have FM1_ := Lib.hid (FM1.out.grow hb11)
  clear FM1
  have FM1 := FM1_
  clear FM1_
  clear hb11 HB10
  go_wp2_with fail
  refine (ident_gen _ K1 p _ kc1 ks id 0 FK1.out HP2.out).mono ?_
  rintro e w12 ⟨C1, cc1, rfl, hc1, hb12⟩
  have HB12 := Lib.hid (HB11.out.trans (hb12.mono HB11.out.size))
  have FK_ := Lib.hid (FK.out.grow hb12)
  clear FK
  have FK := FK_
  clear FK_
  have FI_ := Lib.hid (FI.out.grow hb12)
  clear FI
  have FI := FI_
  clear FI_
  have FT1_ := Lib.hid (FT1.out.grow hb12)
  clear FT1
  have FT1 := FT1_
  clear FT1_
  have FA1_ := Lib.hid (FA1.out.grow hb12)
  clear FA1
  have FA1 := FA1_
  clear FA1_
  have FA2_ := Lib.hid (FA2.out.grow hb12)
  clear FA2
  have FA2 := FA2_
  clear FA2_
  have FT2_ := Lib.hid (FT2.out.grow hb12)
  clear FT2
  have FT2 := FT2_
  clear FT2_
  have FK1_ := Lib.hid (FK1.out.grow hb12)
  clear FK1
  have FK1 := FK1_
  clear FK1_
  have FK2_ := Lib.hid (FK2.out.grow hb12)
  clear FK2
  have FK2 := FK2_
  clear FK2_
  have FM1_ := Lib.hid (FM1.out.grow hb12)
  clear FM1
  have FM1 := FM1_
  clear FM1_
  have FC1 := Lib.hid hc1
  clear hc1
  clear hb12 HB11
  go_wp2_with fail
  refine (same_gen _ C1 I _ _ _ _ id FC1.out FI.out).mono ?_
  rintro e w13 ⟨rfl, hb13⟩
  have HB13 := Lib.hid (HB12.out.trans (hb13.mono HB12.out.size))
  have FK_ := Lib.hid (FK.out.grow hb13)
  clear FK
  have FK := FK_
  clear FK_
  have FI_ := Lib.hid (FI.out.grow hb13)
  clear FI
  have FI := FI_
  clear FI_
  have FT1_ := Lib.hid (FT1.out.grow hb13)
  clear FT1
  have FT1 := FT1_
  clear FT1_
  have FA1_ := Lib.hid (FA1.out.grow hb13)
  clear FA1
  have FA1 := FA1_
  clear FA1_
  have FA2_ := Lib.hid (FA2.out.grow hb13)
  clear FA2
  have FA2 := FA2_
  clear FA2_
  have FT2_ := Lib.hid (FT2.out.grow hb13)
  clear FT2
  have FT2 := FT2_
  clear FT2_
  have FK1_ := Lib.hid (FK1.out.grow hb13)
  clear FK1
  have FK1 := FK1_
  clear FK1_
  have FK2_ := Lib.hid (FK2.out.grow hb13)
  clear FK2
  have FK2 := FK2_
  clear FK2_
  have FM1_ := Lib.hid (FM1.out.grow hb13)
  clear FM1
  have FM1 := FM1_
  clear FM1_
  have FC1_ := Lib.hid (FC1.out.grow hb13)
  clear FC1
  have FC1 := FC1_
  clear FC1_
  clear hb13 HB12
  go_wp2
  go_ret
  exact ⟨rfl, HB13.out⟩

set_option maxRecDepth 100000 in
set_option maxHeartbeats 1600000 in
theorem idents_on (w0 : World) (pol : Int) (K I : Option Addr) (n c m d : Nat) (zs id bs ks : List Nat) (p : Int) (FK : Hid (Arg w0 w0.heap.size K n c zs)) (FI : Hid (Arg w0 w0.heap.size I m d id)) (hn : n ≤ 140737488355328) (hm : m ≤ 140737488355328)
    (HI : Hid (idV pol zs = (bs, 0))) (HP : Hid (partsV id = (p, ks, 3))) :
    Calls Try.prog 10 #[.int .i64 pol, .slice K n c, .slice I m d] w0 fun e w' => e = .returned (.bool true) ∧ Below w0.heap.size w0 w' := by
  have HB0 : Hid (Below w0.heap.size w0 w0) := Below.refl _ _
  have HI2 := Lib.hid (idV_ok HI.out)
  go_enter Try.func10, Try.ntmps10
  go_wp2_with fail
  refine (twin_gen _ K n c zs FK.out hn).mono ?_
  rintro e w1 ⟨T1, tc1, rfl, ht1, hb1⟩
  have HB1 := Lib.hid (HB0.out.trans (hb1.mono HB0.out.size))
  have FK_ := Lib.hid (FK.out.grow hb1)
  clear FK
  have FK := FK_
  clear FK_
  have FI_ := Lib.hid (FI.out.grow hb1)
  clear FI
  have FI := FI_
  clear FI_
  have FT1 := Lib.hid ht1
  clear ht1
  clear hb1 HB0
  go_wp2_with fail
  refine (ident_gen _ T1 pol n tc1 zs bs 0 FT1.out HI.out).mono ?_
  rintro e w2 ⟨A1, ac1, rfl, ha1, hb2⟩
  have HB2 := Lib.hid (HB1.out.trans (hb2.mono HB1.out.size))
  have FK_ := Lib.hid (FK.out.grow hb2)
  clear FK
  have FK := FK_
  clear FK_
  have FI_ := Lib.hid (FI.out.grow hb2)
  clear FI
  have FI := FI_
  clear FI_
  have FT1_ := Lib.hid (FT1.out.grow hb2)
  clear FT1
  have FT1 := FT1_
  clear FT1_
  have FA1 := Lib.hid ha1
  clear ha1
  clear hb2 HB1
  go_wp2_with fail
  refine (docIdent_gen _ K pol n c zs bs 0 FK.out HI.out).mono ?_
  rintro e w3 ⟨A2, ac2, rfl, ha2, hb3⟩
  have HB3 := Lib.hid (HB2.out.trans (hb3.mono HB2.out.size))
  have FK_ := Lib.hid (FK.out.grow hb3)
  clear FK
  have FK := FK_
  clear FK_
  have FI_ := Lib.hid (FI.out.grow hb3)
  clear FI
  have FI := FI_
  clear FI_
  have FT1_ := Lib.hid (FT1.out.grow hb3)
  clear FT1
  have FT1 := FT1_
  clear FT1_
  have FA1_ := Lib.hid (FA1.out.grow hb3)
  clear FA1
  have FA1 := FA1_
  clear FA1_
  have FA2 := Lib.hid ha2
  clear ha2
  clear hb3 HB2
  go_wp2_with fail
  refine (twin_gen _ I m d id FI.out hm).mono ?_
  rintro e w4 ⟨T2, tc2, rfl, ht2, hb4⟩
  have HB4 := Lib.hid (HB3.out.trans (hb4.mono HB3.out.size))
  have FK_ := Lib.hid (FK.out.grow hb4)
  clear FK
  have FK := FK_
  clear FK_
  have FI_ := Lib.hid (FI.out.grow hb4)
  clear FI
  have FI := FI_
  clear FI_
  have FT1_ := Lib.hid (FT1.out.grow hb4)
  clear FT1
  have FT1 := FT1_
  clear FT1_
  have FA1_ := Lib.hid (FA1.out.grow hb4)
  clear FA1
  have FA1 := FA1_
  clear FA1_
  have FA2_ := Lib.hid (FA2.out.grow hb4)
  clear FA2
  have FA2 := FA2_
  clear FA2_
  have FT2 := Lib.hid ht2
  clear ht2
  clear hb4 HB3
  go_wp2_with fail
  refine (parts_gen _ T2 m tc2 id ks p 3 FT2.out HP.out).mono ?_
  rintro e w5 ⟨K1, kc1, rfl, hk1, hb5⟩
  have HB5 := Lib.hid (HB4.out.trans (hb5.mono HB4.out.size))
  have FK_ := Lib.hid (FK.out.grow hb5)
  clear FK
  have FK := FK_
  clear FK_
  have FI_ := Lib.hid (FI.out.grow hb5)
  clear FI
  have FI := FI_
  clear FI_
  have FT1_ := Lib.hid (FT1.out.grow hb5)
  clear FT1
  have FT1 := FT1_
  clear FT1_
  have FA1_ := Lib.hid (FA1.out.grow hb5)
  clear FA1
  have FA1 := FA1_
  clear FA1_
  have FA2_ := Lib.hid (FA2.out.grow hb5)
  clear FA2
  have FA2 := FA2_
  clear FA2_
  have FT2_ := Lib.hid (FT2.out.grow hb5)
  clear FT2
  have FT2 := FT2_
  clear FT2_
  have FK1 := Lib.hid hk1
  clear hk1
  clear hb5 HB4
  go_wp2_with fail
  refine (docParts_gen _ I m d id ks p 3 FI.out HP.out).mono ?_
  rintro e w6 ⟨K2, kc2, rfl, hk2, hb6⟩
  have HB6 := Lib.hid (HB5.out.trans (hb6.mono HB5.out.size))
  have FK_ := Lib.hid (FK.out.grow hb6)
  clear FK
  have FK := FK_
  clear FK_
  have FI_ := Lib.hid (FI.out.grow hb6)
  clear FI
  have FI := FI_
  clear FI_
  have FT1_ := Lib.hid (FT1.out.grow hb6)
  clear FT1
  have FT1 := FT1_
  clear FT1_
  have FA1_ := Lib.hid (FA1.out.grow hb6)
  clear FA1
  have FA1 := FA1_
  clear FA1_
  have FA2_ := Lib.hid (FA2.out.grow hb6)
  clear FA2
  have FA2 := FA2_
  clear FA2_
  have FT2_ := Lib.hid (FT2.out.grow hb6)
  clear FT2
  have FT2 := FT2_
  clear FT2_
  have FK1_ := Lib.hid (FK1.out.grow hb6)
  clear FK1
  have FK1 := FK1_
  clear FK1_
  have FK2 := Lib.hid hk2
  clear hk2
  clear hb6 HB5
  go_wp2_with fail
  refine (awake2_any _).mono ?_
  rintro e w7 ⟨rfl, hb7⟩
  have HB7 := Lib.hid (HB6.out.trans (hb7.mono HB6.out.size))
  have FK_ := Lib.hid (FK.out.grow hb7)
  clear FK
  have FK := FK_
  clear FK_
  have FI_ := Lib.hid (FI.out.grow hb7)
  clear FI
  have FI := FI_
  clear FI_
  have FT1_ := Lib.hid (FT1.out.grow hb7)
  clear FT1
  have FT1 := FT1_
  clear FT1_
  have FA1_ := Lib.hid (FA1.out.grow hb7)
  clear FA1
  have FA1 := FA1_
  clear FA1_
  have FA2_ := Lib.hid (FA2.out.grow hb7)
  clear FA2
  have FA2 := FA2_
  clear FA2_
  have FT2_ := Lib.hid (FT2.out.grow hb7)
  clear FT2
  have FT2 := FT2_
  clear FT2_
  have FK1_ := Lib.hid (FK1.out.grow hb7)
  clear FK1
  have FK1 := FK1_
  clear FK1_
  have FK2_ := Lib.hid (FK2.out.grow hb7)
  clear FK2
  have FK2 := FK2_
  clear FK2_
  clear hb7 HB6
  go_wp2_with fail
  refine (same_gen _ A1 A2 _ _ _ _ bs FA1.out FA2.out).mono ?_
  rintro e w8 ⟨rfl, hb8⟩
  have HB8 := Lib.hid (HB7.out.trans (hb8.mono HB7.out.size))
  have FK_ := Lib.hid (FK.out.grow hb8)
  clear FK
  have FK := FK_
  clear FK_
  have FI_ := Lib.hid (FI.out.grow hb8)
  clear FI
  have FI := FI_
  clear FI_
  have FT1_ := Lib.hid (FT1.out.grow hb8)
  clear FT1
  have FT1 := FT1_
  clear FT1_
  have FA1_ := Lib.hid (FA1.out.grow hb8)
  clear FA1
  have FA1 := FA1_
  clear FA1_
  have FA2_ := Lib.hid (FA2.out.grow hb8)
  clear FA2
  have FA2 := FA2_
  clear FA2_
  have FT2_ := Lib.hid (FT2.out.grow hb8)
  clear FT2
  have FT2 := FT2_
  clear FT2_
  have FK1_ := Lib.hid (FK1.out.grow hb8)
  clear FK1
  have FK1 := FK1_
  clear FK1_
  have FK2_ := Lib.hid (FK2.out.grow hb8)
  clear FK2
  have FK2 := FK2_
  clear FK2_
  clear hb8 HB7
  go_wp2_with fail
  refine (same_gen _ K1 K2 _ _ _ _ ks FK1.out FK2.out).mono ?_
  rintro e w9 ⟨rfl, hb9⟩
  have HB9 := Lib.hid (HB8.out.trans (hb9.mono HB8.out.size))
  have FK_ := Lib.hid (FK.out.grow hb9)
  clear FK
  have FK := FK_
  clear FK_
  have FI_ := Lib.hid (FI.out.grow hb9)
  clear FI
  have FI := FI_
  clear FI_
  have FT1_ := Lib.hid (FT1.out.grow hb9)
  clear FT1
  have FT1 := FT1_
  clear FT1_
  have FA1_ := Lib.hid (FA1.out.grow hb9)
  clear FA1
  have FA1 := FA1_
  clear FA1_
  have FA2_ := Lib.hid (FA2.out.grow hb9)
  clear FA2
  have FA2 := FA2_
  clear FA2_
  have FT2_ := Lib.hid (FT2.out.grow hb9)
  clear FT2
  have FT2 := FT2_
  clear FT2_
  have FK1_ := Lib.hid (FK1.out.grow hb9)
  clear FK1
  have FK1 := FK1_
  clear FK1_
  have FK2_ := Lib.hid (FK2.out.grow hb9)
  clear FK2
  have FK2 := FK2_
  clear FK2_
  clear hb9 HB8
  go_wp2_with fail
  refine (parts_gen _ A1 _ ac1 bs zs pol 0 FA1.out HI2.out).mono ?_
  rintro e w10 ⟨M1, mc1, rfl, hm1, hb10⟩
  have HB10 := Lib.hid (HB9.out.trans (hb10.mono HB9.out.size))
  have FK_ := Lib.hid (FK.out.grow hb10)
  clear FK
  have FK := FK_
  clear FK_
  have FI_ := Lib.hid (FI.out.grow hb10)
  clear FI
  have FI := FI_
  clear FI_
  have FT1_ := Lib.hid (FT1.out.grow hb10)
  clear FT1
  have FT1 := FT1_
  clear FT1_
  have FA1_ := Lib.hid (FA1.out.grow hb10)
  clear FA1
  have FA1 := FA1_
  clear FA1_
  have FA2_ := Lib.hid (FA2.out.grow hb10)
  clear FA2
  have FA2 := FA2_
  clear FA2_
  have FT2_ := Lib.hid (FT2.out.grow hb10)
  clear FT2
  have FT2 := FT2_
  clear FT2_
  have FK1_ := Lib.hid (FK1.out.grow hb10)
  clear FK1
  have FK1 := FK1_
  clear FK1_
  have FK2_ := Lib.hid (FK2.out.grow hb10)
  clear FK2
  have FK2 := FK2_
  clear FK2_
  have FM1 := Lib.hid hm1
  clear hm1
  clear hb10 HB9
  go_wp2_with fail
  refine (same_gen _ M1 K _ _ _ _ zs FM1.out FK.out).mono ?_
  rintro e w11 ⟨rfl, hb11⟩
  have HB11 := Lib.hid (HB10.out.trans (hb11.mono HB10.out.size))
  have FK_ := Lib.hid (FK.out.grow hb11)
  clear FK
  have FK := FK_
  clear FK_
  have FI_ := Lib.hid (FI.out.grow hb11)
  clear FI
  have FI := FI_
  clear FI_
  have FT1_ := Lib.hid (FT1.out.grow hb11)
  clear FT1
  have FT1 := FT1_
  clear FT1_
  have FA1_ := Lib.hid (FA1.out.grow hb11)
  clear FA1
  have FA1 := FA1_
  clear FA1_
  have FA2_ := Lib.hid (FA2.out.grow hb11)
  clear FA2
  have FA2 := FA2_
  clear FA2_
  have FT2_ := Lib.hid (FT2.out.grow hb11)
  clear FT2
  have FT2 := FT2_
  clear FT2_
  have FK1_ := Lib.hid (FK1.out.grow hb11)
  clear FK1
  have FK1 := FK1_
  clear FK1_
  have FK2_ := Lib.hid (FK2.out.grow hb11)
  clear FK2
  have FK2 := FK2_
  clear FK2_
  have FM1_ := Lib.hid (FM1.out.grow hb11)
  clear FM1
  have FM1 := FM1_
  clear FM1_
  clear hb11 HB10
  go_wp2
  go_ret
  exact ⟨rfl, HB11.out⟩

set_option maxRecDepth 100000 in
set_option maxHeartbeats 1600000 in
theorem idents_no (w0 : World) (pol : Int) (K I : Option Addr) (n c m d : Nat) (zs id bs ks : List Nat) (p x : Int) (FK : Hid (Arg w0 w0.heap.size K n c zs)) (FI : Hid (Arg w0 w0.heap.size I m d id)) (hn : n ≤ 140737488355328) (hm : m ≤ 140737488355328)
    (HI : Hid (idV pol zs = (bs, x))) (HP : Hid (partsV id = (p, ks, 0))) (hx : 1 ≤ x) :
    Calls Try.prog 10 #[.int .i64 pol, .slice K n c, .slice I m d] w0 fun e w' => e = .returned (.bool true) ∧ Below w0.heap.size w0 w' := by
  have HB0 : Hid (Below w0.heap.size w0 w0) := Below.refl _ _
  have HP2 : Hid (idV p ks = (id, 0)) := by
    rcases partsV_y HP.out with h | h
    · omega
    · exact h.2
  go_enter Try.func10, Try.ntmps10
  go_wp2_with fail
  refine (twin_gen _ K n c zs FK.out hn).mono ?_
  rintro e w1 ⟨T1, tc1, rfl, ht1, hb1⟩
  have HB1 := Lib.hid (HB0.out.trans (hb1.mono HB0.out.size))
  have FK_ := Lib.hid (FK.out.grow hb1)
  clear FK
  have FK := FK_
  clear FK_
  have FI_ := Lib.hid (FI.out.grow hb1)
  clear FI
  have FI := FI_
  clear FI_
  have FT1 := Lib.hid ht1
  clear ht1
  clear hb1 HB0
  go_wp2_with fail
  refine (ident_gen _ T1 pol n tc1 zs bs x FT1.out HI.out).mono ?_
  rintro e w2 ⟨A1, ac1, rfl, ha1, hb2⟩
  have HB2 := Lib.hid (HB1.out.trans (hb2.mono HB1.out.size))
  have FK_ := Lib.hid (FK.out.grow hb2)
  clear FK
  have FK := FK_
  clear FK_
  have FI_ := Lib.hid (FI.out.grow hb2)
  clear FI
  have FI := FI_
  clear FI_
  have FT1_ := Lib.hid (FT1.out.grow hb2)
  clear FT1
  have FT1 := FT1_
  clear FT1_
  have FA1 := Lib.hid ha1
  clear ha1
  clear hb2 HB1
  go_wp2_with fail
  refine (docIdent_gen _ K pol n c zs bs x FK.out HI.out).mono ?_
  rintro e w3 ⟨A2, ac2, rfl, ha2, hb3⟩
  have HB3 := Lib.hid (HB2.out.trans (hb3.mono HB2.out.size))
  have FK_ := Lib.hid (FK.out.grow hb3)
  clear FK
  have FK := FK_
  clear FK_
  have FI_ := Lib.hid (FI.out.grow hb3)
  clear FI
  have FI := FI_
  clear FI_
  have FT1_ := Lib.hid (FT1.out.grow hb3)
  clear FT1
  have FT1 := FT1_
  clear FT1_
  have FA1_ := Lib.hid (FA1.out.grow hb3)
  clear FA1
  have FA1 := FA1_
  clear FA1_
  have FA2 := Lib.hid ha2
  clear ha2
  clear hb3 HB2
  go_wp2_with fail
  refine (twin_gen _ I m d id FI.out hm).mono ?_
  rintro e w4 ⟨T2, tc2, rfl, ht2, hb4⟩
  have HB4 := Lib.hid (HB3.out.trans (hb4.mono HB3.out.size))
  have FK_ := Lib.hid (FK.out.grow hb4)
  clear FK
  have FK := FK_
  clear FK_
  have FI_ := Lib.hid (FI.out.grow hb4)
  clear FI
  have FI := FI_
  clear FI_
  have FT1_ := Lib.hid (FT1.out.grow hb4)
  clear FT1
  have FT1 := FT1_
  clear FT1_
  have FA1_ := Lib.hid (FA1.out.grow hb4)
  clear FA1
  have FA1 := FA1_
  clear FA1_
  have FA2_ := Lib.hid (FA2.out.grow hb4)
  clear FA2
  have FA2 := FA2_
  clear FA2_
  have FT2 := Lib.hid ht2
  clear ht2
  clear hb4 HB3
  go_wp2_with fail
  refine (parts_gen _ T2 m tc2 id ks p 0 FT2.out HP.out).mono ?_
  rintro e w5 ⟨K1, kc1, rfl, hk1, hb5⟩
  have HB5 := Lib.hid (HB4.out.trans (hb5.mono HB4.out.size))
  have FK_ := Lib.hid (FK.out.grow hb5)
  clear FK
  have FK := FK_
  clear FK_
  have FI_ := Lib.hid (FI.out.grow hb5)
  clear FI
  have FI := FI_
  clear FI_
  have FT1_ := Lib.hid (FT1.out.grow hb5)
  clear FT1
  have FT1 := FT1_
  clear FT1_
  have FA1_ := Lib.hid (FA1.out.grow hb5)
  clear FA1
  have FA1 := FA1_
  clear FA1_
  have FA2_ := Lib.hid (FA2.out.grow hb5)
  clear FA2
  have FA2 := FA2_
  clear FA2_
  have FT2_ := Lib.hid (FT2.out.grow hb5)
  clear FT2
  have FT2 := FT2_
  clear FT2_
  have FK1 := Lib.hid hk1
  clear hk1
  clear hb5 HB4
  go_wp2_with fail
  refine (docParts_gen _ I m d id ks p 0 FI.out HP.out).mono ?_
  rintro e w6 ⟨K2, kc2, rfl, hk2, hb6⟩
  have HB6 := Lib.hid (HB5.out.trans (hb6.mono HB5.out.size))
  have FK_ := Lib.hid (FK.out.grow hb6)
  clear FK
  have FK := FK_
  clear FK_
  have FI_ := Lib.hid (FI.out.grow hb6)
  clear FI
  have FI := FI_
  clear FI_
  have FT1_ := Lib.hid (FT1.out.grow hb6)
  clear FT1
  have FT1 := FT1_
  clear FT1_
  have FA1_ := Lib.hid (FA1.out.grow hb6)
  clear FA1
  have FA1 := FA1_
  clear FA1_
  have FA2_ := Lib.hid (FA2.out.grow hb6)
  clear FA2
  have FA2 := FA2_
  clear FA2_
  have FT2_ := Lib.hid (FT2.out.grow hb6)
  clear FT2
  have FT2 := FT2_
  clear FT2_
  have FK1_ := Lib.hid (FK1.out.grow hb6)
  clear FK1
  have FK1 := FK1_
  clear FK1_
  have FK2 := Lib.hid hk2
  clear hk2
  clear hb6 HB5
  go_wp2_with fail
  refine (awake2_any _).mono ?_
  rintro e w7 ⟨rfl, hb7⟩
  have HB7 := Lib.hid (HB6.out.trans (hb7.mono HB6.out.size))
  have FK_ := Lib.hid (FK.out.grow hb7)
  clear FK
  have FK := FK_
  clear FK_
  have FI_ := Lib.hid (FI.out.grow hb7)
  clear FI
  have FI := FI_
  clear FI_
  have FT1_ := Lib.hid (FT1.out.grow hb7)
  clear FT1
  have FT1 := FT1_
  clear FT1_
  have FA1_ := Lib.hid (FA1.out.grow hb7)
  clear FA1
  have FA1 := FA1_
  clear FA1_
  have FA2_ := Lib.hid (FA2.out.grow hb7)
  clear FA2
  have FA2 := FA2_
  clear FA2_
  have FT2_ := Lib.hid (FT2.out.grow hb7)
  clear FT2
  have FT2 := FT2_
  clear FT2_
  have FK1_ := Lib.hid (FK1.out.grow hb7)
  clear FK1
  have FK1 := FK1_
  clear FK1_
  have FK2_ := Lib.hid (FK2.out.grow hb7)
  clear FK2
  have FK2 := FK2_
  clear FK2_
  clear hb7 HB6
  go_wp2_with fail
  refine (same_gen _ A1 A2 _ _ _ _ bs FA1.out FA2.out).mono ?_
  rintro e w8 ⟨rfl, hb8⟩
  have HB8 := Lib.hid (HB7.out.trans (hb8.mono HB7.out.size))
  have FK_ := Lib.hid (FK.out.grow hb8)
  clear FK
  have FK := FK_
  clear FK_
  have FI_ := Lib.hid (FI.out.grow hb8)
  clear FI
  have FI := FI_
  clear FI_
  have FT1_ := Lib.hid (FT1.out.grow hb8)
  clear FT1
  have FT1 := FT1_
  clear FT1_
  have FA1_ := Lib.hid (FA1.out.grow hb8)
  clear FA1
  have FA1 := FA1_
  clear FA1_
  have FA2_ := Lib.hid (FA2.out.grow hb8)
  clear FA2
  have FA2 := FA2_
  clear FA2_
  have FT2_ := Lib.hid (FT2.out.grow hb8)
  clear FT2
  have FT2 := FT2_
  clear FT2_
  have FK1_ := Lib.hid (FK1.out.grow hb8)
  clear FK1
  have FK1 := FK1_
  clear FK1_
  have FK2_ := Lib.hid (FK2.out.grow hb8)
  clear FK2
  have FK2 := FK2_
  clear FK2_
  clear hb8 HB7
  go_wp2_with fail
  refine (same_gen _ K1 K2 _ _ _ _ ks FK1.out FK2.out).mono ?_
  rintro e w9 ⟨rfl, hb9⟩
  have HB9 := Lib.hid (HB8.out.trans (hb9.mono HB8.out.size))
  have FK_ := Lib.hid (FK.out.grow hb9)
  clear FK
  have FK := FK_
  clear FK_
  have FI_ := Lib.hid (FI.out.grow hb9)
  clear FI
  have FI := FI_
  clear FI_
  have FT1_ := Lib.hid (FT1.out.grow hb9)
  clear FT1
  have FT1 := FT1_
  clear FT1_
  have FA1_ := Lib.hid (FA1.out.grow hb9)
  clear FA1
  have FA1 := FA1_
  clear FA1_
  have FA2_ := Lib.hid (FA2.out.grow hb9)
  clear FA2
  have FA2 := FA2_
  clear FA2_
  have FT2_ := Lib.hid (FT2.out.grow hb9)
  clear FT2
  have FT2 := FT2_
  clear FT2_
  have FK1_ := Lib.hid (FK1.out.grow hb9)
  clear FK1
  have FK1 := FK1_
  clear FK1_
  have FK2_ := Lib.hid (FK2.out.grow hb9)
  clear FK2
  have FK2 := FK2_
  clear FK2_
  clear hb9 HB8
  go_wp2_with fail
  refine (ident_gen _ K1 p _ kc1 ks id 0 FK1.out HP2.out).mono ?_
  rintro e w10 ⟨C1, cc1, rfl, hc1, hb10⟩
  have HB10 := Lib.hid (HB9.out.trans (hb10.mono HB9.out.size))
  have FK_ := Lib.hid (FK.out.grow hb10)
  clear FK
  have FK := FK_
  clear FK_
  have FI_ := Lib.hid (FI.out.grow hb10)
  clear FI
  have FI := FI_
  clear FI_
  have FT1_ := Lib.hid (FT1.out.grow hb10)
  clear FT1
  have FT1 := FT1_
  clear FT1_
  have FA1_ := Lib.hid (FA1.out.grow hb10)
  clear FA1
  have FA1 := FA1_
  clear FA1_
  have FA2_ := Lib.hid (FA2.out.grow hb10)
  clear FA2
  have FA2 := FA2_
  clear FA2_
  have FT2_ := Lib.hid (FT2.out.grow hb10)
  clear FT2
  have FT2 := FT2_
  clear FT2_
  have FK1_ := Lib.hid (FK1.out.grow hb10)
  clear FK1
  have FK1 := FK1_
  clear FK1_
  have FK2_ := Lib.hid (FK2.out.grow hb10)
  clear FK2
  have FK2 := FK2_
  clear FK2_
  have FC1 := Lib.hid hc1
  clear hc1
  clear hb10 HB9
  go_wp2_with fail
  refine (same_gen _ C1 I _ _ _ _ id FC1.out FI.out).mono ?_
  rintro e w11 ⟨rfl, hb11⟩
  have HB11 := Lib.hid (HB10.out.trans (hb11.mono HB10.out.size))
  have FK_ := Lib.hid (FK.out.grow hb11)
  clear FK
  have FK := FK_
  clear FK_
  have FI_ := Lib.hid (FI.out.grow hb11)
  clear FI
  have FI := FI_
  clear FI_
  have FT1_ := Lib.hid (FT1.out.grow hb11)
  clear FT1
  have FT1 := FT1_
  clear FT1_
  have FA1_ := Lib.hid (FA1.out.grow hb11)
  clear FA1
  have FA1 := FA1_
  clear FA1_
  have FA2_ := Lib.hid (FA2.out.grow hb11)
  clear FA2
  have FA2 := FA2_
  clear FA2_
  have FT2_ := Lib.hid (FT2.out.grow hb11)
  clear FT2
  have FT2 := FT2_
  clear FT2_
  have FK1_ := Lib.hid (FK1.out.grow hb11)
  clear FK1
  have FK1 := FK1_
  clear FK1_
  have FK2_ := Lib.hid (FK2.out.grow hb11)
  clear FK2
  have FK2 := FK2_
  clear FK2_
  have FC1_ := Lib.hid (FC1.out.grow hb11)
  clear FC1
  have FC1 := FC1_
  clear FC1_
  clear hb11 HB10
  go_wp2
  go_ret
  exact ⟨rfl, HB11.out⟩

set_option maxRecDepth 100000 in
set_option maxHeartbeats 1600000 in
theorem idents_nn (w0 : World) (pol : Int) (K I : Option Addr) (n c m d : Nat) (zs id bs ks : List Nat) (p x : Int) (FK : Hid (Arg w0 w0.heap.size K n c zs)) (FI : Hid (Arg w0 w0.heap.size I m d id)) (hn : n ≤ 140737488355328) (hm : m ≤ 140737488355328)
    (HI : Hid (idV pol zs = (bs, x))) (HP : Hid (partsV id = (p, ks, 3))) (hx : 1 ≤ x) :
    Calls Try.prog 10 #[.int .i64 pol, .slice K n c, .slice I m d] w0 fun e w' => e = .returned (.bool true) ∧ Below w0.heap.size w0 w' := by
  have HB0 : Hid (Below w0.heap.size w0 w0) := Below.refl _ _
  go_enter Try.func10, Try.ntmps10
  go_wp2_with fail
  refine (twin_gen _ K n c zs FK.out hn).mono ?_
  rintro e w1 ⟨T1, tc1, rfl, ht1, hb1⟩
  have HB1 := Lib.hid (HB0.out.trans (hb1.mono HB0.out.size))
  have FK_ := Lib.hid (FK.out.grow hb1)
  clear FK
  have FK := FK_
  clear FK_
  have FI_ := Lib.hid (FI.out.grow hb1)
  clear FI
  have FI := FI_
  clear FI_
  have FT1 := Lib.hid ht1
  clear ht1
  clear hb1 HB0
  go_wp2_with fail
  refine (ident_gen _ T1 pol n tc1 zs bs x FT1.out HI.out).mono ?_
  rintro e w2 ⟨A1, ac1, rfl, ha1, hb2⟩
  have HB2 := Lib.hid (HB1.out.trans (hb2.mono HB1.out.size))
  have FK_ := Lib.hid (FK.out.grow hb2)
  clear FK
  have FK := FK_
  clear FK_
  have FI_ := Lib.hid (FI.out.grow hb2)
  clear FI
  have FI := FI_
  clear FI_
  have FT1_ := Lib.hid (FT1.out.grow hb2)
  clear FT1
  have FT1 := FT1_
  clear FT1_
  have FA1 := Lib.hid ha1
  clear ha1
  clear hb2 HB1
  go_wp2_with fail
  refine (docIdent_gen _ K pol n c zs bs x FK.out HI.out).mono ?_
  rintro e w3 ⟨A2, ac2, rfl, ha2, hb3⟩
  have HB3 := Lib.hid (HB2.out.trans (hb3.mono HB2.out.size))
  have FK_ := Lib.hid (FK.out.grow hb3)
  clear FK
  have FK := FK_
  clear FK_
  have FI_ := Lib.hid (FI.out.grow hb3)
  clear FI
  have FI := FI_
  clear FI_
  have FT1_ := Lib.hid (FT1.out.grow hb3)
  clear FT1
  have FT1 := FT1_
  clear FT1_
  have FA1_ := Lib.hid (FA1.out.grow hb3)
  clear FA1
  have FA1 := FA1_
  clear FA1_
  have FA2 := Lib.hid ha2
  clear ha2
  clear hb3 HB2
  go_wp2_with fail
  refine (twin_gen _ I m d id FI.out hm).mono ?_
  rintro e w4 ⟨T2, tc2, rfl, ht2, hb4⟩
  have HB4 := Lib.hid (HB3.out.trans (hb4.mono HB3.out.size))
  have FK_ := Lib.hid (FK.out.grow hb4)
  clear FK
  have FK := FK_
  clear FK_
  have FI_ := Lib.hid (FI.out.grow hb4)
  clear FI
  have FI := FI_
  clear FI_
  have FT1_ := Lib.hid (FT1.out.grow hb4)
  clear FT1
  have FT1 := FT1_
  clear FT1_
  have FA1_ := Lib.hid (FA1.out.grow hb4)
  clear FA1
  have FA1 := FA1_
  clear FA1_
  have FA2_ := Lib.hid (FA2.out.grow hb4)
  clear FA2
  have FA2 := FA2_
  clear FA2_
  have FT2 := Lib.hid ht2
  clear ht2
  clear hb4 HB3
  go_wp2_with fail
  refine (parts_gen _ T2 m tc2 id ks p 3 FT2.out HP.out).mono ?_
  rintro e w5 ⟨K1, kc1, rfl, hk1, hb5⟩
  have HB5 := Lib.hid (HB4.out.trans (hb5.mono HB4.out.size))
  have FK_ := Lib.hid (FK.out.grow hb5)
  clear FK
  have FK := FK_
  clear FK_
  have FI_ := Lib.hid (FI.out.grow hb5)
  clear FI
  have FI := FI_
  clear FI_
  have FT1_ := Lib.hid (FT1.out.grow hb5)
  clear FT1
  have FT1 := FT1_
  clear FT1_
  have FA1_ := Lib.hid (FA1.out.grow hb5)
  clear FA1
  have FA1 := FA1_
  clear FA1_
  have FA2_ := Lib.hid (FA2.out.grow hb5)
  clear FA2
  have FA2 := FA2_
  clear FA2_
  have FT2_ := Lib.hid (FT2.out.grow hb5)
  clear FT2
  have FT2 := FT2_
  clear FT2_
  have FK1 := Lib.hid hk1
  clear hk1
  clear hb5 HB4
  go_wp2_with fail
  refine (docParts_gen _ I m d id ks p 3 FI.out HP.out).mono ?_
  rintro e w6 ⟨K2, kc2, rfl, hk2, hb6⟩
  have HB6 := Lib.hid (HB5.out.trans (hb6.mono HB5.out.size))
  have FK_ := Lib.hid (FK.out.grow hb6)
  clear FK
  have FK := FK_
  clear FK_
  have FI_ := Lib.hid (FI.out.grow hb6)
  clear FI
  have FI := FI_
  clear FI_
  have FT1_ := Lib.hid (FT1.out.grow hb6)
  clear FT1
  have FT1 := FT1_
  clear FT1_
  have FA1_ := Lib.hid (FA1.out.grow hb6)
  clear FA1
  have FA1 := FA1_
  clear FA1_
  have FA2_ := Lib.hid (FA2.out.grow hb6)
  clear FA2
  have FA2 := FA2_
  clear FA2_
  have FT2_ := Lib.hid (FT2.out.grow hb6)
  clear FT2
  have FT2 := FT2_
  clear FT2_
  have FK1_ := Lib.hid (FK1.out.grow hb6)
  clear FK1
  have FK1 := FK1_
  clear FK1_
  have FK2 := Lib.hid hk2
  clear hk2
  clear hb6 HB5
  go_wp2_with fail
  refine (awake2_any _).mono ?_
  rintro e w7 ⟨rfl, hb7⟩
  have HB7 := Lib.hid (HB6.out.trans (hb7.mono HB6.out.size))
  have FK_ := Lib.hid (FK.out.grow hb7)
  clear FK
  have FK := FK_
  clear FK_
  have FI_ := Lib.hid (FI.out.grow hb7)
  clear FI
  have FI := FI_
  clear FI_
  have FT1_ := Lib.hid (FT1.out.grow hb7)
  clear FT1
  have FT1 := FT1_
  clear FT1_
  have FA1_ := Lib.hid (FA1.out.grow hb7)
  clear FA1
  have FA1 := FA1_
  clear FA1_
  have FA2_ := Lib.hid (FA2.out.grow hb7)
  clear FA2
  have FA2 := FA2_
  clear FA2_
  have FT2_ := Lib.hid (FT2.out.grow hb7)
  clear FT2
  have FT2 := FT2_
  clear FT2_
  have FK1_ := Lib.hid (FK1.out.grow hb7)
  clear FK1
  have FK1 := FK1_
  clear FK1_
  have FK2_ := Lib.hid (FK2.out.grow hb7)
  clear FK2
  have FK2 := FK2_
  clear FK2_
  clear hb7 HB6
  go_wp2_with fail
  refine (same_gen _ A1 A2 _ _ _ _ bs FA1.out FA2.out).mono ?_
  rintro e w8 ⟨rfl, hb8⟩
  have HB8 := Lib.hid (HB7.out.trans (hb8.mono HB7.out.size))
  have FK_ := Lib.hid (FK.out.grow hb8)
  clear FK
  have FK := FK_
  clear FK_
  have FI_ := Lib.hid (FI.out.grow hb8)
  clear FI
  have FI := FI_
  clear FI_
  have FT1_ := Lib.hid (FT1.out.grow hb8)
  clear FT1
  have FT1 := FT1_
  clear FT1_
  have FA1_ := Lib.hid (FA1.out.grow hb8)
  clear FA1
  have FA1 := FA1_
  clear FA1_
  have FA2_ := Lib.hid (FA2.out.grow hb8)
  clear FA2
  have FA2 := FA2_
  clear FA2_
  have FT2_ := Lib.hid (FT2.out.grow hb8)
  clear FT2
  have FT2 := FT2_
  clear FT2_
  have FK1_ := Lib.hid (FK1.out.grow hb8)
  clear FK1
  have FK1 := FK1_
  clear FK1_
  have FK2_ := Lib.hid (FK2.out.grow hb8)
  clear FK2
  have FK2 := FK2_
  clear FK2_
  clear hb8 HB7
  go_wp2_with fail
  refine (same_gen _ K1 K2 _ _ _ _ ks FK1.out FK2.out).mono ?_
  rintro e w9 ⟨rfl, hb9⟩
  have HB9 := Lib.hid (HB8.out.trans (hb9.mono HB8.out.size))
  have FK_ := Lib.hid (FK.out.grow hb9)
  clear FK
  have FK := FK_
  clear FK_
  have FI_ := Lib.hid (FI.out.grow hb9)
  clear FI
  have FI := FI_
  clear FI_
  have FT1_ := Lib.hid (FT1.out.grow hb9)
  clear FT1
  have FT1 := FT1_
  clear FT1_
  have FA1_ := Lib.hid (FA1.out.grow hb9)
  clear FA1
  have FA1 := FA1_
  clear FA1_
  have FA2_ := Lib.hid (FA2.out.grow hb9)
  clear FA2
  have FA2 := FA2_
  clear FA2_
  have FT2_ := Lib.hid (FT2.out.grow hb9)
  clear FT2
  have FT2 := FT2_
  clear FT2_
  have FK1_ := Lib.hid (FK1.out.grow hb9)
  clear FK1
  have FK1 := FK1_
  clear FK1_
  have FK2_ := Lib.hid (FK2.out.grow hb9)
  clear FK2
  have FK2 := FK2_
  clear FK2_
  clear hb9 HB8
  go_wp2
  go_ret
  exact ⟨rfl, HB9.out⟩

theorem hashIdents_walk (pol : Int) (K : Option Addr) (n c : Nat) (zs : List Nat) (I : Option Addr) (m d : Nat) (id : List Nat) (w : World) (_ : (Lit.int .i64 pol).wf = true)
    (hK : Arg w w.heap.size K n c zs) (hc : c ≤ 140737488351232) (hI : Arg w w.heap.size I m d id) (hd : d ≤ 140737488351232) :
    Calls Try.prog 10 #[.int .i64 pol, .slice K n c, .slice I m d] w fun e w' => e = .returned (.bool true) ∧ Below w.heap.size w w' := by
  obtain ⟨bs, x, hi⟩ : ∃ bs x, idV pol zs = (bs, x) := ⟨_, _, rfl⟩
  obtain ⟨p, ks, y, hp⟩ : ∃ p ks y, partsV id = (p, ks, y) := ⟨_, _, _, rfl⟩
  have hx := idV_x hi
  have hy := partsV_y hp
  have hn := hK.le
  have hm := hI.le
  rcases hx with rfl | hx
  · rcases hy with rfl | ⟨rfl, _⟩
    · exact idents_on w pol K I n c m d zs id bs ks p hK hI (by omega) (by omega) hi hp
    · exact idents_oo w pol K I n c m d zs id bs ks p hK hI (by omega) (by omega) hi hp
  · rcases hy with rfl | ⟨rfl, _⟩
    · exact idents_nn w pol K I n c m d zs id bs ks p x hK hI (by omega) (by omega) hi hp (by omega)
    · exact idents_no w pol K I n c m d zs id bs ks p x hK hI (by omega) (by omega) hi hp (by omega)
end Go.Proofs.Ytjgnldalmenahaa
