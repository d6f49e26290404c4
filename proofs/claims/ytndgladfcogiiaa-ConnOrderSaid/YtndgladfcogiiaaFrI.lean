/- Contract: the law's awake of layer 20. -/
import Derived.Test.YtndgladfcogiiaaFrH
namespace Go.Proofs.Ytndgladfcogiiaa
open Go.RowKit
set_option maxRecDepth 100000
set_option linter.unusedVariables false

theorem fr_two : Fr.frV ([] ++ [0, 0]) = ([], [0, 0], false) := Fr.fr_short (by decide)
theorem fr_six : Fr.frV ([0, 0] ++ [0, 1, 97, 0]) = ([[97]], [0], false) := by
  have h := Fr.fr_enc [97] [0] (by decide) (by decide)
  rw [Fr.fr_short (l := [0]) (by decide)] at h
  exact h
theorem encV_97 : Fr.encV [97] = [0, 0, 0, 1, 97] := by decide
/-- A literal of bytes, as bytes that are read. -/
theorem lit_arg (w : World) (xs : List Nat) (hx : ∀ d ∈ xs, d < 256) (hn : xs.length ≤ maxLen) : Arg (w.alloc (.cells (xs.map V8).toArray 5)) (w.heap.size + 1) (some ⟨w.heap.size, 0, none⟩) xs.length xs.length xs := arg_blk w xs (0, 0) hx hn

theorem rdm_new (w : World) : RdM (w.alloc (.cells #[.slice none 0 0, .bool false] 133)) w.heap.size w.heap.size none 0 0 [] false :=
  ⟨BlkL.new w [.slice none 0 0, .bool false] _, OwnV.nil _ _, by simp, by simp [bkV]⟩

/-- Feed of a reader of the call's own (since w0). -/
def FeedO (w0 w : World) (rb : Nat) (A : Option Addr) (xs zs : List Nat) (e : Ending) (w' : World) : Prop :=
  ∃ PA k kc rs A' n' c', e = .returned (.tuple #[.slice PA k kc, .int .i64 (if (Fr.frV (xs ++ zs)).2.2 then 12 else 0)]) ∧ rs.map (·.p) = (Fr.frV (xs ++ zs)).1 ∧ PayL w' w.heap.size PA k kc rs ∧
    RdM w' w0.heap.size rb A' n' c' (if (Fr.frV (xs ++ zs)).2.2 then [] else (Fr.frV (xs ++ zs)).2.1) (Fr.frV (xs ++ zs)).2.2 ∧ Off (rb :: bkV A) w w' ∧ (∀ y ∈ bkV A', y ∈ bkV A ∨ w.heap.size ≤ y) ∧ (∀ y ∈ bkV A', y ∉ blkP PA rs) ∧ Below w0.heap.size w0 w'
theorem feed_own (w0 w : World) (rb : Nat) (A : Option Addr) (n c : Nat) (xs : List Nat) (S : Option Addr) (m d : Nat) (zs : List Nat) (hb : Below w0.heap.size w0 w) (hrb : w0.heap.size ≤ rb) (h : RdM w w0.heap.size rb A n c xs false) (ha : Arg w w.heap.size S m d zs)
    (hnm : n + m ≤ 211106232532992) (hk : (Fr.frV (xs ++ zs)).1.length * 24 ≤ 140737488355328) :
    Calls Try.prog 38 #[.pointer (some ⟨rb, 0, none⟩), .slice S m d] w (FeedO w0 w rb A xs zs) := by
  refine (feed_open w w0.heap.size rb A n c xs S m d zs h ha hb.size hnm hk).mono ?_
  rintro e w' ⟨PA, k, kc, rs, A', n', c', h1, h2, h3, h4, h5, h6, h7⟩
  refine ⟨PA, k, kc, rs, A', n', c', h1, h2, h3, h4, h5, h6, h7, hb.trans (h5.below hb.size fun y hy => ?_)⟩
  rcases List.mem_cons.1 hy with rfl | hy
  · exact hrb
  · exact (h.own.lt y hy).1

theorem lit97 (w : World) : Arg (w.alloc (.cells #[.int .u8 97] 5)) (w.heap.size + 1) (some ⟨w.heap.size, 0, none⟩) 1 1 [97] := lit_arg w [97] (by simp) (by simp [maxLen])
theorem lit5 (w : World) : Arg (w.alloc (.cells #[.int .u8 0, .int .u8 0, .int .u8 0, .int .u8 1, .int .u8 97] 5)) (w.heap.size + 1) (some ⟨w.heap.size, 0, none⟩) 5 5 [0, 0, 0, 1, 97] := lit_arg w [0, 0, 0, 1, 97] (by simp) (by simp [maxLen])
theorem lit00 (w : World) : Arg (w.alloc (.cells #[.int .u8 0, .int .u8 0] 5)) (w.heap.size + 1) (some ⟨w.heap.size, 0, none⟩) 2 2 [0, 0] := lit_arg w [0, 0] (by simp) (by simp [maxLen])
theorem lit0197 (w : World) : Arg (w.alloc (.cells #[.int .u8 0, .int .u8 1, .int .u8 97, .int .u8 0] 5)) (w.heap.size + 1) (some ⟨w.heap.size, 0, none⟩) 4 4 [0, 1, 97, 0] := lit_arg w [0, 1, 97, 0] (by simp) (by simp [maxLen])
/-- A list of one list of one byte, as it is laid. -/
theorem litL97 (w : World) : ArgL ((w.alloc (.cells #[.int .u8 97] 5)).alloc (.cells #[.slice (some ⟨w.heap.size, 0, none⟩) 1 1] 22)) (w.heap.size + 2) (some ⟨w.heap.size + 1, 0, none⟩) 1 1 [[97]] := by
  have h1 := (lit97 w).below (B := w.heap.size + 1) ((Below.refl _ _).alloc (by simp) (.cells #[.slice (some ⟨w.heap.size, 0, none⟩) 1 1] 22))
  refine ⟨rfl, Nat.le_refl _, by simp [maxLen], (fun e => by cases e), fun _ => ⟨w.heap.size + 1, 0, rfl, by omega, fun i hi => ?_⟩⟩
  obtain rfl : i = 0 := by omega
  have hc := (BlkL.new (w.alloc (.cells #[.int .u8 97] 5)) [.slice (some ⟨w.heap.size, 0, none⟩) 1 1] 22).cell 0 _ rfl
  rw [World.size_alloc] at hc
  exact ⟨_, _, _, hc, h1.more (by omega)⟩

set_option maxHeartbeats 3200000 in
theorem awake20_any (w : World) : Calls Try.prog 32 #[] w (ValEnd w (.bool true)) := by
  have HE : Hid (Calls Try.prog 34 #[.slice (some ⟨w.heap.size, 0, none⟩) 1 1] (w.alloc (.cells #[.int .u8 97] 5)) (NewB (w.alloc (.cells #[.int .u8 97] 5)) [0, 0, 0, 1, 97] 5)) :=
    Lib.hid (by have := fenc_good _ (w.heap.size + 1) _ _ _ _ (lit97 w) (by simp) (by simp) (by simp); rwa [encV_97] at this)
  have B0 := Lib.hid ((Below.refl w.heap.size w).alloc (Nat.le_refl _) (.cells #[.int .u8 97] 5))
  go_enter Try.func32, Try.ntmps32
  go_wp2_with fail
  with_reducible refine (HE.out).mono ?_
  rintro e w1 ⟨P, pc, rfl, ho1, hb1⟩
  have hb1' := B0.out.trans (hb1.mono (by simp))
  have HO1 := Lib.hid ho1
  have HB1 := Lib.hid hb1'
  clear ho1 hb1 hb1' HE B0
  go_wp2_with fail
  with_reducible refine (fnew_any w1).mono ?_
  rintro e w2 ⟨rfl, rfl⟩
  have R2 := Lib.hid (rdm_new w1)
  have hs1 := HB1.out.size
  have O2 := Lib.hid (HO1.out.below ((Below.refl _ _).alloc (Nat.le_refl _) (.cells #[.slice none 0 0, .bool false] 133)))
  have B2 := Lib.hid (HB1.out.alloc hs1 (.cells #[.slice none 0 0, .bool false] 133))
  have Z2 : Hid (w.heap.size ≤ w1.heap.size) := Lib.hid hs1
  clear HO1 HB1 hs1
  generalize w1.heap.size = rb at *
  generalize w1.alloc (.cells #[.slice none 0 0, .bool false] 133) = w2 at *
  have o3 := O2.out.below ((Below.refl _ _).alloc (Nat.le_refl _) (.cells #[.int .u8 0, .int .u8 0, .int .u8 0, .int .u8 1, .int .u8 97] 5))
  have HS := Lib.hid (same_any _ _ _ P _ 5 pc 5 5 _ _ true (by simp) o3.arg (lit5 w2))
  have R3 := Lib.hid (R2.out.below ((Below.refl _ _).alloc (Nat.le_refl _) (.cells #[.int .u8 0, .int .u8 0, .int .u8 0, .int .u8 1, .int .u8 97] 5)))
  have B3 := Lib.hid (B2.out.alloc B2.out.size (.cells #[.int .u8 0, .int .u8 0, .int .u8 0, .int .u8 1, .int .u8 97] 5))
  clear o3 O2 R2 B2
  go_wp2_with fail
  with_reducible refine (HS.out).mono ?_
  rintro e w4 ⟨rfl, t4, hw4⟩
  have R4 : Hid (RdM w4 w.heap.size rb none 0 0 [] false) := by rw [hw4]; exact Lib.hid ((R3.out.below (below_drewN (Below.refl _ _) t4)).mono Z2.out)
  have B4 : Hid (Below w.heap.size w w4) := by rw [hw4]; exact Lib.hid (below_drewN B3.out t4)
  clear hw4 R3 B3 HS
  have HF1 := Lib.hid (feed_own w _ rb none 0 0 [] _ 2 2 [0, 0] (B4.out.alloc B4.out.size (.cells #[.int .u8 0, .int .u8 0] 5)) Z2.out (R4.out.below ((Below.refl _ _).alloc (Nat.le_refl _) (.cells #[.int .u8 0, .int .u8 0] 5))) ((lit00 w4).more (by simp)) (by simp) (by rw [fr_two]; simp))
  go_wp2_with fail
  with_reducible refine (HF1.out).mono ?_
  rintro e w5 ⟨PA, k, kc, rs, A5, n5, c5, rfl, h2, h3, h4, h5, h6, h7, h8⟩
  rw [fr_two] at h2 h4
  have hk0 : k = 0 := by have := h3.len; simp at h2; subst h2; simpa using this.symm
  subst hk0
  have R5 : Hid (RdM w5 w.heap.size rb A5 n5 c5 [0, 0] false) := Lib.hid h4
  have hn5 : n5 = 2 := by have := R5.out.len; simpa using this.symm
  subst hn5
  have B5 := Lib.hid h8
  simp only [fr_two, Bool.false_eq_true, if_false]
  clear h2 h3 h4 h5 h6 h7 h8 R4 B4 HF1
  have HF2 := Lib.hid (feed_own w _ rb A5 2 c5 [0, 0] _ 4 4 [0, 1, 97, 0] (B5.out.alloc B5.out.size (.cells #[.int .u8 0, .int .u8 1, .int .u8 97, .int .u8 0] 5)) Z2.out (R5.out.below ((Below.refl _ _).alloc (Nat.le_refl _) (.cells #[.int .u8 0, .int .u8 1, .int .u8 97, .int .u8 0] 5))) ((lit0197 w5).more (by simp)) (by simp) (by rw [fr_six]; simp))
  go_wp2_with fail
  with_reducible refine (HF2.out).mono ?_
  rintro e w6 ⟨PA2, k2, kc2, rs2, A6, n6, c6, rfl, h2, h3, h4, h5, h6, h7, h8⟩
  rw [fr_six] at h2 h4
  have R6 : Hid (RdM w6 w.heap.size rb A6 n6 c6 [0] false) := Lib.hid h4
  have hn6 : n6 = 1 := by have := R6.out.len; simpa using this.symm
  subst hn6
  have harg := h3.arg
  rw [h2] at harg
  have P6 := Lib.hid harg
  have B6 := Lib.hid h8
  simp only [fr_six, Bool.false_eq_true, if_false]
  clear h2 h3 h4 h5 h6 h7 h8 harg R5 B5 HF2
  have bel : Below w6.heap.size w6 ((w6.alloc (.cells #[.int .u8 97] 5)).alloc (.cells #[.slice (some ⟨w6.heap.size, 0, none⟩) 1 1] 22)) := ((Below.refl _ _).alloc (Nat.le_refl _) _).alloc (by simp) _
  have hk2 : k2 = 1 := by have := P6.out.len; simpa using this.symm
  subst hk2
  have HSL := Lib.hid (sameL_any _ PA2 _ 1 kc2 1 1 [[97]] [[97]] ((P6.out.below bel).more (by simp; omega)) ((litL97 w6).more (by simp)) rfl (by simp))
  have R7 := Lib.hid (R6.out.below bel)
  have B7 := Lib.hid (B6.out.trans (bel.mono B6.out.size))
  clear bel P6 R6 B6
  go_wp2_with fail
  with_reducible refine (HSL.out).mono ?_
  rintro e w8 ⟨rfl, t8, hw8⟩
  have R8 : Hid (BlkL w8 rb [.slice A6 1 c6, .bool false]) := by rw [hw8]; exact Lib.hid (R7.out.blk.drewN t8)
  have B8 : Hid (Below w.heap.size w w8) := by rw [hw8]; exact Lib.hid (below_drewN B7.out t8)
  clear hw8 R7 B7 HSL
  have HW := Lib.hid (fwait_any w8 rb A6 1 c6 _ R8.out)
  go_wp2_with fail
  with_reducible refine (HW.out).mono ?_
  rintro e w9 ⟨rfl, rfl⟩
  go_wp2
  go_ret
  exact ⟨rfl, B8.out⟩
end Go.Proofs.Ytndgladfcogiiaa
