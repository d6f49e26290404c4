/- The document's Of. -/
import Derived.Test.YtafboimlchjnaaaDoorRateAll
import Derived.Test.YtafboimlchjnaaaDoorBlk
namespace Go.Proofs.YtafboimlchjnaaaDoor
open Go.RowKit
set_option maxRecDepth 100000
set_option linter.unusedVariables false

theorem whole3_1 (w : World) (A B : Option Addr) (n m c d : Nat) (xs ys : List Nat) (N M : Nat) (hA : Num w A n c xs N) (hB : Num w B m d ys M) (hn : n ≤ 4096) (hm : m ≤ 4096) (hM : 0 < M) :
    Calls Tryd.prog 66 #[.slice A n c, .slice B m d, .int .i64 1] w (NumEnd w (roundV N M 1) (n + 3)) := whole3_any w A B n m c d 1 xs ys N M hA hB hn hm hM
theorem whole3_0 (w : World) (A B : Option Addr) (n m c d : Nat) (xs ys : List Nat) (N M : Nat) (hA : Num w A n c xs N) (hB : Num w B m d ys M) (hn : n ≤ 4096) (hm : m ≤ 4096) (hM : 0 < M) :
    Calls Tryd.prog 66 #[.slice A n c, .slice B m d, .int .i64 0] w (NumEnd w (roundV N M 0) (n + 3)) := whole3_any w A B n m c d 0 xs ys N M hA hB hn hm hM
theorem tick_ok5 (w : World) (A : Option Addr) (n c : Nat) (xs : List Nat) (N T : Nat) (h : Num w A n c xs N) (hT : N = T) (hle : T ≤ 4611686018427387903) :
    Calls Tryd.prog 65 #[.slice A n c] w fun e w' => e = .returned (.tuple #[.int .i64 (T : Int), .bool true]) ∧ w = w' := by
  subst hT
  exact (tick3_any w A n c xs N h).mono fun e w' hh => by unfold TickEnd at hh; rw [if_pos hle] at hh; exact hh
theorem tick_no5 (w : World) (A : Option Addr) (n c : Nat) (xs : List Nat) (N : Nat) (h : Num w A n c xs N) (hle : ¬ N ≤ 4611686018427387903) :
    Calls Tryd.prog 65 #[.slice A n c] w fun e w' => ∃ v, e = .returned (.tuple #[.int .i64 v, .bool false]) ∧ w = w' := 
  (tick3_any w A n c xs N h).mono fun e w' hh => by unfold TickEnd at hh; rw [if_neg hle] at hh; exact ⟨hh.1.choose, hh.1.choose_spec, hh.2⟩

set_option maxHeartbeats 1600000 in
theorem docof_t1 (w : World) (p b : Nat) (hz : Int)
    (HK : Hid (∀ w c, c = p ∨ c = b → Calls Tryd.prog 21 #[.float .f64 c] w fun e w' => e = .returned (.int .i64 (kindB c : Int)) ∧ w' = w))
    (t1 : decide (hz < 1) = true) :
    Calls Tryd.prog 42 #[.agg #[.float .f64 p, .float .f64 b, .int .i64 hz]] w (ValEnd w (.tuple #[.agg #[.int .i64 0, .int .i64 0], .int .i64 1])) := by
  go_enter Tryd.func42, Tryd.ntmps42
  go_wp2_with fail
  go_quiet (first | (go_at_call 21; exact Calls.quiet_of_same (HK.out _ _ (.inl rfl))) | (go_at_call 21; exact Calls.quiet_of_same (HK.out _ _ (.inr rfl))))
  go_wp2
  exact bodyPost_ret (v := .tuple #[.agg #[.int .i64 0, .int .i64 0], .int .i64 1]) (by simp [results, Tryd.results42, go_sem]) rfl ⟨rfl, below_put2 (below_drewN (((Below.refl w.heap.size w).alloc (Nat.le_refl _) _).alloc (by simp) _) _) (by omega) _ _⟩


set_option maxHeartbeats 1600000 in
theorem docof_t2 (w : World) (p b : Nat) (hz : Int)
    (HK : Hid (∀ w c, c = p ∨ c = b → Calls Tryd.prog 21 #[.float .f64 c] w fun e w' => e = .returned (.int .i64 (kindB c : Int)) ∧ w' = w))
    (t1 : decide (hz < 1) = false)
    (t2 : decide (1000000000 < hz) = true) :
    Calls Tryd.prog 42 #[.agg #[.float .f64 p, .float .f64 b, .int .i64 hz]] w (ValEnd w (.tuple #[.agg #[.int .i64 0, .int .i64 0], .int .i64 1])) := by
  go_enter Tryd.func42, Tryd.ntmps42
  go_wp2_with fail
  go_quiet (first | (go_at_call 21; exact Calls.quiet_of_same (HK.out _ _ (.inl rfl))) | (go_at_call 21; exact Calls.quiet_of_same (HK.out _ _ (.inr rfl))))
  go_wp2
  exact bodyPost_ret (v := .tuple #[.agg #[.int .i64 0, .int .i64 0], .int .i64 1]) (by simp [results, Tryd.results42, go_sem]) rfl ⟨rfl, below_put2 (below_drewN (((Below.refl w.heap.size w).alloc (Nat.le_refl _) _).alloc (by simp) _) _) (by omega) _ _⟩


set_option maxHeartbeats 1600000 in
theorem docof_n1 (w : World) (p b : Nat) (hz : Int)
    (HK : Hid (∀ w c, c = p ∨ c = b → Calls Tryd.prog 21 #[.float .f64 c] w fun e w' => e = .returned (.int .i64 (kindB c : Int)) ∧ w' = w))
    (t1 : decide (hz < 1) = false)
    (t2 : decide (1000000000 < hz) = false)
    (q4p : ((kindB p : Int) == 4) = true) :
    Calls Tryd.prog 42 #[.agg #[.float .f64 p, .float .f64 b, .int .i64 hz]] w (ValEnd w (.tuple #[.agg #[.int .i64 0, .int .i64 0], .int .i64 4])) := by
  go_enter Tryd.func42, Tryd.ntmps42
  go_wp2_with fail
  go_quiet (first | (go_at_call 21; exact Calls.quiet_of_same (HK.out _ _ (.inl rfl))) | (go_at_call 21; exact Calls.quiet_of_same (HK.out _ _ (.inr rfl))))
  go_wp2
  exact bodyPost_ret (v := .tuple #[.agg #[.int .i64 0, .int .i64 0], .int .i64 4]) (by simp [results, Tryd.results42, go_sem]) rfl ⟨rfl, below_put2 (below_drewN (((Below.refl w.heap.size w).alloc (Nat.le_refl _) _).alloc (by simp) _) _) (by omega) _ _⟩


set_option maxHeartbeats 1600000 in
theorem docof_n2 (w : World) (p b : Nat) (hz : Int)
    (HK : Hid (∀ w c, c = p ∨ c = b → Calls Tryd.prog 21 #[.float .f64 c] w fun e w' => e = .returned (.int .i64 (kindB c : Int)) ∧ w' = w))
    (t1 : decide (hz < 1) = false)
    (t2 : decide (1000000000 < hz) = false)
    (q4p : ((kindB p : Int) == 4) = false)
    (q4b : ((kindB b : Int) == 4) = true) :
    Calls Tryd.prog 42 #[.agg #[.float .f64 p, .float .f64 b, .int .i64 hz]] w (ValEnd w (.tuple #[.agg #[.int .i64 0, .int .i64 0], .int .i64 4])) := by
  go_enter Tryd.func42, Tryd.ntmps42
  go_wp2_with fail
  go_quiet (first | (go_at_call 21; exact Calls.quiet_of_same (HK.out _ _ (.inl rfl))) | (go_at_call 21; exact Calls.quiet_of_same (HK.out _ _ (.inr rfl))))
  go_wp2
  exact bodyPost_ret (v := .tuple #[.agg #[.int .i64 0, .int .i64 0], .int .i64 4]) (by simp [results, Tryd.results42, go_sem]) rfl ⟨rfl, below_put2 (below_drewN (((Below.refl w.heap.size w).alloc (Nat.le_refl _) _).alloc (by simp) _) _) (by omega) _ _⟩


set_option maxHeartbeats 1600000 in
theorem docof_r1 (w : World) (p b : Nat) (hz : Int)
    (HK : Hid (∀ w c, c = p ∨ c = b → Calls Tryd.prog 21 #[.float .f64 c] w fun e w' => e = .returned (.int .i64 (kindB c : Int)) ∧ w' = w))
    (t1 : decide (hz < 1) = false)
    (t2 : decide (1000000000 < hz) = false)
    (q4p : ((kindB p : Int) == 4) = false)
    (q4b : ((kindB b : Int) == 4) = false)
    (q3p : ((kindB p : Int) == 3) = true) :
    Calls Tryd.prog 42 #[.agg #[.float .f64 p, .float .f64 b, .int .i64 hz]] w (ValEnd w (.tuple #[.agg #[.int .i64 0, .int .i64 0], .int .i64 5])) := by
  go_enter Tryd.func42, Tryd.ntmps42
  go_wp2_with fail
  go_quiet (first | (go_at_call 21; exact Calls.quiet_of_same (HK.out _ _ (.inl rfl))) | (go_at_call 21; exact Calls.quiet_of_same (HK.out _ _ (.inr rfl))))
  go_wp2
  exact bodyPost_ret (v := .tuple #[.agg #[.int .i64 0, .int .i64 0], .int .i64 5]) (by simp [results, Tryd.results42, go_sem]) rfl ⟨rfl, below_put2 (below_drewN (((Below.refl w.heap.size w).alloc (Nat.le_refl _) _).alloc (by simp) _) _) (by omega) _ _⟩


set_option maxHeartbeats 1600000 in
theorem docof_r2 (w : World) (p b : Nat) (hz : Int)
    (HK : Hid (∀ w c, c = p ∨ c = b → Calls Tryd.prog 21 #[.float .f64 c] w fun e w' => e = .returned (.int .i64 (kindB c : Int)) ∧ w' = w))
    (t1 : decide (hz < 1) = false)
    (t2 : decide (1000000000 < hz) = false)
    (q4p : ((kindB p : Int) == 4) = false)
    (q4b : ((kindB b : Int) == 4) = false)
    (q3p : ((kindB p : Int) == 3) = false)
    (q0p : ((kindB p : Int) == 0) = true) :
    Calls Tryd.prog 42 #[.agg #[.float .f64 p, .float .f64 b, .int .i64 hz]] w (ValEnd w (.tuple #[.agg #[.int .i64 0, .int .i64 0], .int .i64 5])) := by
  go_enter Tryd.func42, Tryd.ntmps42
  go_wp2_with fail
  go_quiet (first | (go_at_call 21; exact Calls.quiet_of_same (HK.out _ _ (.inl rfl))) | (go_at_call 21; exact Calls.quiet_of_same (HK.out _ _ (.inr rfl))))
  go_wp2
  exact bodyPost_ret (v := .tuple #[.agg #[.int .i64 0, .int .i64 0], .int .i64 5]) (by simp [results, Tryd.results42, go_sem]) rfl ⟨rfl, below_put2 (below_drewN (((Below.refl w.heap.size w).alloc (Nat.le_refl _) _).alloc (by simp) _) _) (by omega) _ _⟩


set_option maxHeartbeats 1600000 in
theorem docof_r3 (w : World) (p b : Nat) (hz : Int)
    (HK : Hid (∀ w c, c = p ∨ c = b → Calls Tryd.prog 21 #[.float .f64 c] w fun e w' => e = .returned (.int .i64 (kindB c : Int)) ∧ w' = w))
    (t1 : decide (hz < 1) = false)
    (t2 : decide (1000000000 < hz) = false)
    (q4p : ((kindB p : Int) == 4) = false)
    (q4b : ((kindB b : Int) == 4) = false)
    (q3p : ((kindB p : Int) == 3) = false)
    (q0p : ((kindB p : Int) == 0) = false)
    (HMp : Hid (∀ w, Calls Tryd.prog 23 #[.float .f64 p] w fun e w' => e = .returned (.bool true) ∧ w = w')) :
    Calls Tryd.prog 42 #[.agg #[.float .f64 p, .float .f64 b, .int .i64 hz]] w (ValEnd w (.tuple #[.agg #[.int .i64 0, .int .i64 0], .int .i64 5])) := by
  go_enter Tryd.func42, Tryd.ntmps42
  go_wp2_with fail
  go_quiet (first | (go_at_call 21; exact Calls.quiet_of_same (HK.out _ _ (.inl rfl))) | (go_at_call 21; exact Calls.quiet_of_same (HK.out _ _ (.inr rfl))))
  go_wp2_with fail
  with_reducible refine (HMp.out _).mono ?_
  rintro e w' ⟨rfl, rfl⟩
  go_wp2
  exact bodyPost_ret (v := .tuple #[.agg #[.int .i64 0, .int .i64 0], .int .i64 5]) (by simp [results, Tryd.results42, go_sem]) rfl ⟨rfl, below_put2 (below_drewN (((Below.refl w.heap.size w).alloc (Nat.le_refl _) _).alloc (by simp) _) _) (by omega) _ _⟩


set_option maxHeartbeats 1600000 in
theorem docof_r4 (w : World) (p b : Nat) (hz : Int)
    (HK : Hid (∀ w c, c = p ∨ c = b → Calls Tryd.prog 21 #[.float .f64 c] w fun e w' => e = .returned (.int .i64 (kindB c : Int)) ∧ w' = w))
    (t1 : decide (hz < 1) = false)
    (t2 : decide (1000000000 < hz) = false)
    (q4p : ((kindB p : Int) == 4) = false)
    (q4b : ((kindB b : Int) == 4) = false)
    (q3p : ((kindB p : Int) == 3) = false)
    (q0p : ((kindB p : Int) == 0) = false)
    (HMp : Hid (∀ w, Calls Tryd.prog 23 #[.float .f64 p] w fun e w' => e = .returned (.bool false) ∧ w = w'))
    (q3b : ((kindB b : Int) == 3) = true) :
    Calls Tryd.prog 42 #[.agg #[.float .f64 p, .float .f64 b, .int .i64 hz]] w (ValEnd w (.tuple #[.agg #[.int .i64 0, .int .i64 0], .int .i64 5])) := by
  go_enter Tryd.func42, Tryd.ntmps42
  go_wp2_with fail
  go_quiet (first | (go_at_call 21; exact Calls.quiet_of_same (HK.out _ _ (.inl rfl))) | (go_at_call 21; exact Calls.quiet_of_same (HK.out _ _ (.inr rfl))))
  go_wp2_with fail
  with_reducible refine (HMp.out _).mono ?_
  rintro e w' ⟨rfl, rfl⟩
  go_wp2
  exact bodyPost_ret (v := .tuple #[.agg #[.int .i64 0, .int .i64 0], .int .i64 5]) (by simp [results, Tryd.results42, go_sem]) rfl ⟨rfl, below_put2 (below_drewN (((Below.refl w.heap.size w).alloc (Nat.le_refl _) _).alloc (by simp) _) _) (by omega) _ _⟩


set_option maxHeartbeats 1600000 in
theorem docof_r5 (w : World) (p b : Nat) (hz : Int)
    (HK : Hid (∀ w c, c = p ∨ c = b → Calls Tryd.prog 21 #[.float .f64 c] w fun e w' => e = .returned (.int .i64 (kindB c : Int)) ∧ w' = w))
    (t1 : decide (hz < 1) = false)
    (t2 : decide (1000000000 < hz) = false)
    (q4p : ((kindB p : Int) == 4) = false)
    (q4b : ((kindB b : Int) == 4) = false)
    (q3p : ((kindB p : Int) == 3) = false)
    (q0p : ((kindB p : Int) == 0) = false)
    (HMp : Hid (∀ w, Calls Tryd.prog 23 #[.float .f64 p] w fun e w' => e = .returned (.bool false) ∧ w = w'))
    (q3b : ((kindB b : Int) == 3) = false)
    (qgb : decide (0 < kindB b) = true)
    (HMb : Hid (∀ w, Calls Tryd.prog 23 #[.float .f64 b] w fun e w' => e = .returned (.bool true) ∧ w = w')) :
    Calls Tryd.prog 42 #[.agg #[.float .f64 p, .float .f64 b, .int .i64 hz]] w (ValEnd w (.tuple #[.agg #[.int .i64 0, .int .i64 0], .int .i64 5])) := by
  go_enter Tryd.func42, Tryd.ntmps42
  go_wp2_with fail
  go_quiet (first | (go_at_call 21; exact Calls.quiet_of_same (HK.out _ _ (.inl rfl))) | (go_at_call 21; exact Calls.quiet_of_same (HK.out _ _ (.inr rfl))))
  go_wp2_with fail
  with_reducible refine (HMp.out _).mono ?_
  rintro e w' ⟨rfl, rfl⟩
  go_wp2_with fail
  with_reducible refine (HMb.out _).mono ?_
  rintro e w' ⟨rfl, rfl⟩
  go_wp2
  exact bodyPost_ret (v := .tuple #[.agg #[.int .i64 0, .int .i64 0], .int .i64 5]) (by simp [results, Tryd.results42, go_sem]) rfl ⟨rfl, below_put2 (below_drewN (((Below.refl w.heap.size w).alloc (Nat.le_refl _) _).alloc (by simp) _) _) (by omega) _ _⟩


set_option maxHeartbeats 3200000 in
theorem docof_no10 (w : World) (p b : Nat) (h mp : Nat) (ep : Int)
    (HK : Hid (∀ w c, c = p ∨ c = b → Calls Tryd.prog 21 #[.float .f64 c] w fun e w' => e = .returned (.int .i64 (kindB c : Int)) ∧ w' = w))
    (t1 : decide ((h : Int) < 1) = false)
    (t2 : decide (1000000000 < (h : Int)) = false)
    (q4p : ((kindB p : Int) == 4) = false)
    (q4b : ((kindB b : Int) == 4) = false)
    (q3p : ((kindB p : Int) == 3) = false)
    (q0p : ((kindB p : Int) == 0) = false)
    (HMp : Hid (∀ w, Calls Tryd.prog 23 #[.float .f64 p] w fun e w' => e = .returned (.bool false) ∧ w = w'))
    (q3b : ((kindB b : Int) == 3) = false)
    (qgb : decide (0 < kindB b) = false)
    (hh : h ≤ 1000000000)
    (HNp : Hid (∀ w, Calls Tryd.prog 55 #[.float .f64 p] w fun e w' => e = .returned (.tuple #[.int .u64 (mp : Int), .int .i64 ep]) ∧ w = w'))
    (hmp : mp < 9007199254740992)
    (hmp0 : 0 < mp)
    (hep : -1074 ≤ ep ∧ ep ≤ 972)
    (hT : ¬ roundV (h * dnN ep) (upN mp ep) 1 ≤ 4611686018427387903) :
    Calls Tryd.prog 42 #[.agg #[.float .f64 p, .float .f64 b, .int .i64 (h : Int)]] w (ValEnd w (.tuple #[.agg #[.int .i64 0, .int .i64 0], .int .i64 5])) := by
  have hup : 0 < upN mp ep := Nat.mul_pos hmp0 (Nat.pow_pos (by omega))
  have eh : IntKind.u64.wrap (h : Int) = (h : Int) := u64_in (by omega) (by omega)
  have HT := Lib.hid hT
  clear hT
  go_enter Tryd.func42, Tryd.ntmps42
  go_wp2_with fail
  go_quiet (first | (go_at_call 21; exact Calls.quiet_of_same (HK.out _ _ (.inl rfl))) | (go_at_call 21; exact Calls.quiet_of_same (HK.out _ _ (.inr rfl))))
  go_wp2_with fail
  with_reducible refine (HMp.out _).mono ?_
  rintro e w' ⟨rfl, rfl⟩
  go_wp2_with fail
  with_reducible refine (HNp.out _).mono ?_
  rintro e w' ⟨rfl, rfl⟩
  go_wp2_with fail
  with_reducible refine (word_any _ mp (by omega)).mono ?_
  rintro e w1 ⟨Aw, nw, cw, xw, rfl, hnum, hlw, hb⟩
  have bl := (((BlkL.new w [.float .f64 p, .float .f64 b, .int .i64 (h : Int)] 62).alloc _).drewN _).below hb
  have br := ((BlkL.new _ [.int .i64 0, .int .i64 0] 57).drewN _).below hb
  simp only [World.size_alloc] at br
  have HB1 := Lib.hid ((below_drewN (((Below.refl w.heap.size w).alloc (Nat.le_refl _) _).alloc (by simp) _) _).trans (hb.mono (by simp; omega)))
  have Nw1 := Lib.hid hnum
  clear hb hnum
  have cl0 := bl.cell 0 _ rfl
  have cl1 := bl.cell 1 _ rfl
  have cl2 := bl.cell 2 _ rfl
  have cr0 := br.cell 0 _ rfl
  have cr1 := br.cell 1 _ rfl
  have fr0 := br.froz 0 (by simp)
  have fr1 := br.froz 1 (by simp)
  have BL1 := Lib.hid bl
  have BR1 := Lib.hid br
  clear bl br
  go_wp2_with fail
  with_reducible refine (shift3_any _ _ _ _ ep _ mp Nw1.out (by omega) (by omega) (by omega)).mono ?_
  rintro e w2 ⟨Aa, na, ca, xa, Ab, nb, cb, xb, rfl, hnum, hnum2, hla, hlb, hb⟩
  have bl := BL1.out.below hb
  have br := BR1.out.below hb
  have HB2 := Lib.hid (HB1.out.trans (hb.mono HB1.out.size))
  have Na2 := Lib.hid hnum
  have Nb2 := Lib.hid hnum2
  clear hnum hnum2
  clear hb cl0 cl1 cl2 cr0 cr1 fr0 fr1
  have cl0 := bl.cell 0 _ rfl
  have cl1 := bl.cell 1 _ rfl
  have cl2 := bl.cell 2 _ rfl
  have cr0 := br.cell 0 _ rfl
  have cr1 := br.cell 1 _ rfl
  have fr0 := br.froz 0 (by simp)
  have fr1 := br.froz 1 (by simp)
  have BL2 := Lib.hid bl
  have BR2 := Lib.hid br
  clear bl br
  go_wp2_with fail
  with_reducible refine (word_any _ h (by omega)).mono ?_
  rintro e w3 ⟨Az, nz, cz, xz, rfl, hnum, hlz, hb⟩
  have Na3 := Lib.hid (Na2.out.below hb)
  have Nb3 := Lib.hid (Nb2.out.below hb)
  have bl := BL2.out.below hb
  have br := BR2.out.below hb
  have HB3 := Lib.hid (HB2.out.trans (hb.mono HB2.out.size))
  have Nz3 := Lib.hid hnum
  clear hnum
  clear hb cl0 cl1 cl2 cr0 cr1 fr0 fr1
  have cl0 := bl.cell 0 _ rfl
  have cl1 := bl.cell 1 _ rfl
  have cl2 := bl.cell 2 _ rfl
  have cr0 := br.cell 0 _ rfl
  have cr1 := br.cell 1 _ rfl
  have fr0 := br.froz 0 (by simp)
  have fr1 := br.froz 1 (by simp)
  have BL3 := Lib.hid bl
  have BR3 := Lib.hid br
  clear bl br
  go_wp2_with fail
  with_reducible refine (times_any _ _ _ _ _ _ _ _ _ h (dnN ep) Nz3.out Nb3.out (by omega) (by omega)).mono ?_
  rintro e w4 ⟨Aq, nq, cq, xq, rfl, hnum, hlq, hb⟩
  have Na4 := Lib.hid (Na3.out.below hb)
  have bl := BL3.out.below hb
  have br := BR3.out.below hb
  have HB4 := Lib.hid (HB3.out.trans (hb.mono HB3.out.size))
  have Nq4 := Lib.hid hnum
  clear hnum
  clear hb cl0 cl1 cl2 cr0 cr1 fr0 fr1
  have cl0 := bl.cell 0 _ rfl
  have cl1 := bl.cell 1 _ rfl
  have cl2 := bl.cell 2 _ rfl
  have cr0 := br.cell 0 _ rfl
  have cr1 := br.cell 1 _ rfl
  have fr0 := br.froz 0 (by simp)
  have fr1 := br.froz 1 (by simp)
  have BL4 := Lib.hid bl
  have BR4 := Lib.hid br
  clear bl br
  go_wp2_with fail
  with_reducible refine (whole3_1 _ _ _ _ _ _ _ _ _ (h * dnN ep) (upN mp ep) Nq4.out Na4.out (by omega) (by omega) hup).mono ?_
  rintro e w5 ⟨At, nt, ct, xt, rfl, hnum, hlt, hb⟩
  have bl := BL4.out.below hb
  have br := BR4.out.below hb
  have HB5 := Lib.hid (HB4.out.trans (hb.mono HB4.out.size))
  have Nt5 := Lib.hid hnum
  clear hnum
  clear hb cl0 cl1 cl2 cr0 cr1 fr0 fr1
  have cl0 := bl.cell 0 _ rfl
  have cl1 := bl.cell 1 _ rfl
  have cl2 := bl.cell 2 _ rfl
  have cr0 := br.cell 0 _ rfl
  have cr1 := br.cell 1 _ rfl
  have fr0 := br.froz 0 (by simp)
  have fr1 := br.froz 1 (by simp)
  have BL5 := Lib.hid bl
  have BR5 := Lib.hid br
  clear bl br
  go_wp2_with fail
  with_reducible refine (tick_no5 _ _ _ _ _ _ Nt5.out HT.out).mono ?_
  rintro e w' ⟨v0, rfl, rfl⟩
  go_wp2
  have bz := BR5.out.put2 (.int .i64 0) (.int .i64 0)
  have z0 := bz.cell 0 _ rfl
  have z1 := bz.cell 1 _ rfl
  have hbz := below_put2 HB5.out (b := w.heap.size + 1) (by omega) (.int .i64 0) (.int .i64 0)
  clear bz
  exact bodyPost_ret (v := .tuple #[.agg #[.int .i64 0, .int .i64 0], .int .i64 5]) (by simp [results, Tryd.results42, go_sem, z0, z1]) rfl ⟨rfl, hbz⟩


set_option maxHeartbeats 3200000 in
theorem docof_no20 (w : World) (p b : Nat) (h mp : Nat) (ep : Int) (T mb : Nat) (eb : Int)
    (HK : Hid (∀ w c, c = p ∨ c = b → Calls Tryd.prog 21 #[.float .f64 c] w fun e w' => e = .returned (.int .i64 (kindB c : Int)) ∧ w' = w))
    (t1 : decide ((h : Int) < 1) = false)
    (t2 : decide (1000000000 < (h : Int)) = false)
    (q4p : ((kindB p : Int) == 4) = false)
    (q4b : ((kindB b : Int) == 4) = false)
    (q3p : ((kindB p : Int) == 3) = false)
    (q0p : ((kindB p : Int) == 0) = false)
    (HMp : Hid (∀ w, Calls Tryd.prog 23 #[.float .f64 p] w fun e w' => e = .returned (.bool false) ∧ w = w'))
    (q3b : ((kindB b : Int) == 3) = false)
    (qgb : decide (0 < kindB b) = false)
    (hh : h ≤ 1000000000)
    (HNp : Hid (∀ w, Calls Tryd.prog 55 #[.float .f64 p] w fun e w' => e = .returned (.tuple #[.int .u64 (mp : Int), .int .i64 ep]) ∧ w = w'))
    (hmp : mp < 9007199254740992)
    (hmp0 : 0 < mp)
    (hep : -1074 ≤ ep ∧ ep ≤ 972)
    (hT : roundV (h * dnN ep) (upN mp ep) 1 = T)
    (hT1 : 1 ≤ T)
    (hT2 : T ≤ 4611686018427387903)
    (HNb : Hid (∀ w, Calls Tryd.prog 55 #[.float .f64 b] w fun e w' => e = .returned (.tuple #[.int .u64 (mb : Int), .int .i64 eb]) ∧ w = w'))
    (hmb : mb < 9007199254740992)
    (heb : -1074 ≤ eb ∧ eb ≤ 972)
    (hU : ¬ roundV (T * upN mb eb) (dnN eb) 0 ≤ 4611686018427387903) :
    Calls Tryd.prog 42 #[.agg #[.float .f64 p, .float .f64 b, .int .i64 (h : Int)]] w (ValEnd w (.tuple #[.agg #[.int .i64 0, .int .i64 0], .int .i64 5])) := by
  have hup : 0 < upN mp ep := Nat.mul_pos hmp0 (Nat.pow_pos (by omega))
  have eh : IntKind.u64.wrap (h : Int) = (h : Int) := u64_in (by omega) (by omega)
  have HT := Lib.hid hT
  clear hT
  have eT : IntKind.u64.wrap (T : Int) = (T : Int) := u64_in (by omega) (by omega)
  have hTn : ¬ T < 1 := by omega
  have hT3 : (1 : Int) ≤ T := by omega
  have hmx : max (T : Int) 1 = (T : Int) := by omega
  have HU := Lib.hid hU
  clear hU
  go_enter Tryd.func42, Tryd.ntmps42
  go_wp2_with fail
  go_quiet (first | (go_at_call 21; exact Calls.quiet_of_same (HK.out _ _ (.inl rfl))) | (go_at_call 21; exact Calls.quiet_of_same (HK.out _ _ (.inr rfl))))
  go_wp2_with fail
  with_reducible refine (HMp.out _).mono ?_
  rintro e w' ⟨rfl, rfl⟩
  go_wp2_with fail
  with_reducible refine (HNp.out _).mono ?_
  rintro e w' ⟨rfl, rfl⟩
  go_wp2_with fail
  with_reducible refine (word_any _ mp (by omega)).mono ?_
  rintro e w1 ⟨Aw, nw, cw, xw, rfl, hnum, hlw, hb⟩
  have bl := (((BlkL.new w [.float .f64 p, .float .f64 b, .int .i64 (h : Int)] 62).alloc _).drewN _).below hb
  have br := ((BlkL.new _ [.int .i64 0, .int .i64 0] 57).drewN _).below hb
  simp only [World.size_alloc] at br
  have HB1 := Lib.hid ((below_drewN (((Below.refl w.heap.size w).alloc (Nat.le_refl _) _).alloc (by simp) _) _).trans (hb.mono (by simp; omega)))
  have Nw1 := Lib.hid hnum
  clear hb hnum
  have cl0 := bl.cell 0 _ rfl
  have cl1 := bl.cell 1 _ rfl
  have cl2 := bl.cell 2 _ rfl
  have cr0 := br.cell 0 _ rfl
  have cr1 := br.cell 1 _ rfl
  have fr0 := br.froz 0 (by simp)
  have fr1 := br.froz 1 (by simp)
  have BL1 := Lib.hid bl
  have BR1 := Lib.hid br
  clear bl br
  go_wp2_with fail
  with_reducible refine (shift3_any _ _ _ _ ep _ mp Nw1.out (by omega) (by omega) (by omega)).mono ?_
  rintro e w2 ⟨Aa, na, ca, xa, Ab, nb, cb, xb, rfl, hnum, hnum2, hla, hlb, hb⟩
  have bl := BL1.out.below hb
  have br := BR1.out.below hb
  have HB2 := Lib.hid (HB1.out.trans (hb.mono HB1.out.size))
  have Na2 := Lib.hid hnum
  have Nb2 := Lib.hid hnum2
  clear hnum hnum2
  clear hb cl0 cl1 cl2 cr0 cr1 fr0 fr1
  have cl0 := bl.cell 0 _ rfl
  have cl1 := bl.cell 1 _ rfl
  have cl2 := bl.cell 2 _ rfl
  have cr0 := br.cell 0 _ rfl
  have cr1 := br.cell 1 _ rfl
  have fr0 := br.froz 0 (by simp)
  have fr1 := br.froz 1 (by simp)
  have BL2 := Lib.hid bl
  have BR2 := Lib.hid br
  clear bl br
  go_wp2_with fail
  with_reducible refine (word_any _ h (by omega)).mono ?_
  rintro e w3 ⟨Az, nz, cz, xz, rfl, hnum, hlz, hb⟩
  have Na3 := Lib.hid (Na2.out.below hb)
  have Nb3 := Lib.hid (Nb2.out.below hb)
  have bl := BL2.out.below hb
  have br := BR2.out.below hb
  have HB3 := Lib.hid (HB2.out.trans (hb.mono HB2.out.size))
  have Nz3 := Lib.hid hnum
  clear hnum
  clear hb cl0 cl1 cl2 cr0 cr1 fr0 fr1
  have cl0 := bl.cell 0 _ rfl
  have cl1 := bl.cell 1 _ rfl
  have cl2 := bl.cell 2 _ rfl
  have cr0 := br.cell 0 _ rfl
  have cr1 := br.cell 1 _ rfl
  have fr0 := br.froz 0 (by simp)
  have fr1 := br.froz 1 (by simp)
  have BL3 := Lib.hid bl
  have BR3 := Lib.hid br
  clear bl br
  go_wp2_with fail
  with_reducible refine (times_any _ _ _ _ _ _ _ _ _ h (dnN ep) Nz3.out Nb3.out (by omega) (by omega)).mono ?_
  rintro e w4 ⟨Aq, nq, cq, xq, rfl, hnum, hlq, hb⟩
  have Na4 := Lib.hid (Na3.out.below hb)
  have bl := BL3.out.below hb
  have br := BR3.out.below hb
  have HB4 := Lib.hid (HB3.out.trans (hb.mono HB3.out.size))
  have Nq4 := Lib.hid hnum
  clear hnum
  clear hb cl0 cl1 cl2 cr0 cr1 fr0 fr1
  have cl0 := bl.cell 0 _ rfl
  have cl1 := bl.cell 1 _ rfl
  have cl2 := bl.cell 2 _ rfl
  have cr0 := br.cell 0 _ rfl
  have cr1 := br.cell 1 _ rfl
  have fr0 := br.froz 0 (by simp)
  have fr1 := br.froz 1 (by simp)
  have BL4 := Lib.hid bl
  have BR4 := Lib.hid br
  clear bl br
  go_wp2_with fail
  with_reducible refine (whole3_1 _ _ _ _ _ _ _ _ _ (h * dnN ep) (upN mp ep) Nq4.out Na4.out (by omega) (by omega) hup).mono ?_
  rintro e w5 ⟨At, nt, ct, xt, rfl, hnum, hlt, hb⟩
  have bl := BL4.out.below hb
  have br := BR4.out.below hb
  have HB5 := Lib.hid (HB4.out.trans (hb.mono HB4.out.size))
  have Nt5 := Lib.hid hnum
  clear hnum
  clear hb cl0 cl1 cl2 cr0 cr1 fr0 fr1
  have cl0 := bl.cell 0 _ rfl
  have cl1 := bl.cell 1 _ rfl
  have cl2 := bl.cell 2 _ rfl
  have cr0 := br.cell 0 _ rfl
  have cr1 := br.cell 1 _ rfl
  have fr0 := br.froz 0 (by simp)
  have fr1 := br.froz 1 (by simp)
  have BL5 := Lib.hid bl
  have BR5 := Lib.hid br
  clear bl br
  go_wp2_with fail
  with_reducible refine (tick_ok5 _ _ _ _ _ _ T Nt5.out HT.out (by omega)).mono ?_
  rintro e w' ⟨rfl, rfl⟩
  go_wp2_with fail
  with_reducible refine (HNb.out _).mono ?_
  rintro e w' ⟨rfl, rfl⟩
  go_wp2_with fail
  with_reducible refine (word_any _ mb (by omega)).mono ?_
  rintro e w6 ⟨Av, nv, cv, xv, rfl, hnum, hlv, hb⟩
  have bl := BL5.out.below hb
  have br := BR5.out.below hb
  have HB6 := Lib.hid (HB5.out.trans (hb.mono HB5.out.size))
  have Nv6 := Lib.hid hnum
  clear hnum
  clear hb cl0 cl1 cl2 cr0 cr1 fr0 fr1
  have cl0 := bl.cell 0 _ rfl
  have cl1 := bl.cell 1 _ rfl
  have cl2 := bl.cell 2 _ rfl
  have cr0 := br.cell 0 _ rfl
  have cr1 := br.cell 1 _ rfl
  have fr0 := br.froz 0 (by simp)
  have fr1 := br.froz 1 (by simp)
  have BL6 := Lib.hid bl
  have BR6 := Lib.hid br
  clear bl br
  go_wp2_with fail
  with_reducible refine (shift3_any _ _ _ _ eb _ mb Nv6.out (by omega) (by omega) (by omega)).mono ?_
  rintro e w7 ⟨Ac, nc, cc, xc, Ad, nd, cd, xd, rfl, hnum, hnum2, hlc, hld, hb⟩
  have bl := BL6.out.below hb
  have br := BR6.out.below hb
  have HB7 := Lib.hid (HB6.out.trans (hb.mono HB6.out.size))
  have Nc7 := Lib.hid hnum
  have Nd7 := Lib.hid hnum2
  clear hnum hnum2
  clear hb cl0 cl1 cl2 cr0 cr1 fr0 fr1
  have cl0 := bl.cell 0 _ rfl
  have cl1 := bl.cell 1 _ rfl
  have cl2 := bl.cell 2 _ rfl
  have cr0 := br.cell 0 _ rfl
  have cr1 := br.cell 1 _ rfl
  have fr0 := br.froz 0 (by simp)
  have fr1 := br.froz 1 (by simp)
  have BL7 := Lib.hid bl
  have BR7 := Lib.hid br
  clear bl br
  go_wp2_with fail
  with_reducible refine (word_any _ T (by omega)).mono ?_
  rintro e w8 ⟨Ay, ny, cy, xy, rfl, hnum, hly, hb⟩
  have Nc8 := Lib.hid (Nc7.out.below hb)
  have Nd8 := Lib.hid (Nd7.out.below hb)
  have bl := BL7.out.below hb
  have br := BR7.out.below hb
  have HB8 := Lib.hid (HB7.out.trans (hb.mono HB7.out.size))
  have Ny8 := Lib.hid hnum
  clear hnum
  clear hb cl0 cl1 cl2 cr0 cr1 fr0 fr1
  have cl0 := bl.cell 0 _ rfl
  have cl1 := bl.cell 1 _ rfl
  have cl2 := bl.cell 2 _ rfl
  have cr0 := br.cell 0 _ rfl
  have cr1 := br.cell 1 _ rfl
  have fr0 := br.froz 0 (by simp)
  have fr1 := br.froz 1 (by simp)
  have BL8 := Lib.hid bl
  have BR8 := Lib.hid br
  clear bl br
  go_wp2_with fail
  with_reducible refine (times_any _ _ _ _ _ _ _ _ _ T (upN mb eb) Ny8.out Nc8.out (by omega) (by omega)).mono ?_
  rintro e w9 ⟨Ar, nr, cr, xr, rfl, hnum, hlr, hb⟩
  have Nd9 := Lib.hid (Nd8.out.below hb)
  have bl := BL8.out.below hb
  have br := BR8.out.below hb
  have HB9 := Lib.hid (HB8.out.trans (hb.mono HB8.out.size))
  have Nr9 := Lib.hid hnum
  clear hnum
  clear hb cl0 cl1 cl2 cr0 cr1 fr0 fr1
  have cl0 := bl.cell 0 _ rfl
  have cl1 := bl.cell 1 _ rfl
  have cl2 := bl.cell 2 _ rfl
  have cr0 := br.cell 0 _ rfl
  have cr1 := br.cell 1 _ rfl
  have fr0 := br.froz 0 (by simp)
  have fr1 := br.froz 1 (by simp)
  have BL9 := Lib.hid bl
  have BR9 := Lib.hid br
  clear bl br
  go_wp2_with fail
  with_reducible refine (whole3_0 _ _ _ _ _ _ _ _ _ (T * upN mb eb) (dnN eb) Nr9.out Nd9.out (by omega) (by omega) (dnN_pos eb)).mono ?_
  rintro e w10 ⟨Au, nu, cu, xu, rfl, hnum, hlu, hb⟩
  have bl := BL9.out.below hb
  have br := BR9.out.below hb
  have HB10 := Lib.hid (HB9.out.trans (hb.mono HB9.out.size))
  have Nu10 := Lib.hid hnum
  clear hnum
  clear hb cl0 cl1 cl2 cr0 cr1 fr0 fr1
  have cl0 := bl.cell 0 _ rfl
  have cl1 := bl.cell 1 _ rfl
  have cl2 := bl.cell 2 _ rfl
  have cr0 := br.cell 0 _ rfl
  have cr1 := br.cell 1 _ rfl
  have fr0 := br.froz 0 (by simp)
  have fr1 := br.froz 1 (by simp)
  have BL10 := Lib.hid bl
  have BR10 := Lib.hid br
  clear bl br
  go_wp2_with fail
  with_reducible refine (tick_no5 _ _ _ _ _ _ Nu10.out HU.out).mono ?_
  rintro e w' ⟨v0, rfl, rfl⟩
  go_wp2
  have bz := BR10.out.put2 (.int .i64 0) (.int .i64 0)
  have z0 := bz.cell 0 _ rfl
  have z1 := bz.cell 1 _ rfl
  have hbz := below_put2 HB10.out (b := w.heap.size + 1) (by omega) (.int .i64 0) (.int .i64 0)
  clear bz
  exact bodyPost_ret (v := .tuple #[.agg #[.int .i64 0, .int .i64 0], .int .i64 5]) (by simp [results, Tryd.results42, go_sem, z0, z1]) rfl ⟨rfl, hbz⟩


set_option maxHeartbeats 3200000 in
theorem docof_ok0 (w : World) (p b : Nat) (h mp : Nat) (ep : Int) (T mb : Nat) (eb : Int) (U : Nat)
    (HK : Hid (∀ w c, c = p ∨ c = b → Calls Tryd.prog 21 #[.float .f64 c] w fun e w' => e = .returned (.int .i64 (kindB c : Int)) ∧ w' = w))
    (t1 : decide ((h : Int) < 1) = false)
    (t2 : decide (1000000000 < (h : Int)) = false)
    (q4p : ((kindB p : Int) == 4) = false)
    (q4b : ((kindB b : Int) == 4) = false)
    (q3p : ((kindB p : Int) == 3) = false)
    (q0p : ((kindB p : Int) == 0) = false)
    (HMp : Hid (∀ w, Calls Tryd.prog 23 #[.float .f64 p] w fun e w' => e = .returned (.bool false) ∧ w = w'))
    (q3b : ((kindB b : Int) == 3) = false)
    (qgb : decide (0 < kindB b) = false)
    (hh : h ≤ 1000000000)
    (HNp : Hid (∀ w, Calls Tryd.prog 55 #[.float .f64 p] w fun e w' => e = .returned (.tuple #[.int .u64 (mp : Int), .int .i64 ep]) ∧ w = w'))
    (hmp : mp < 9007199254740992)
    (hmp0 : 0 < mp)
    (hep : -1074 ≤ ep ∧ ep ≤ 972)
    (hT : roundV (h * dnN ep) (upN mp ep) 1 = T)
    (hT1 : 1 ≤ T)
    (hT2 : T ≤ 4611686018427387903)
    (HNb : Hid (∀ w, Calls Tryd.prog 55 #[.float .f64 b] w fun e w' => e = .returned (.tuple #[.int .u64 (mb : Int), .int .i64 eb]) ∧ w = w'))
    (hmb : mb < 9007199254740992)
    (heb : -1074 ≤ eb ∧ eb ≤ 972)
    (hU : roundV (T * upN mb eb) (dnN eb) 0 = U)
    (hU2 : U ≤ 4611686018427387903) :
    Calls Tryd.prog 42 #[.agg #[.float .f64 p, .float .f64 b, .int .i64 (h : Int)]] w (ValEnd w (.tuple #[.agg #[.int .i64 (T : Int), .int .i64 (U : Int)], .int .i64 0])) := by
  have hup : 0 < upN mp ep := Nat.mul_pos hmp0 (Nat.pow_pos (by omega))
  have eh : IntKind.u64.wrap (h : Int) = (h : Int) := u64_in (by omega) (by omega)
  have HT := Lib.hid hT
  clear hT
  have eT : IntKind.u64.wrap (T : Int) = (T : Int) := u64_in (by omega) (by omega)
  have hTn : ¬ T < 1 := by omega
  have hT3 : (1 : Int) ≤ T := by omega
  have hmx : max (T : Int) 1 = (T : Int) := by omega
  have HU := Lib.hid hU
  clear hU
  go_enter Tryd.func42, Tryd.ntmps42
  go_wp2_with fail
  go_quiet (first | (go_at_call 21; exact Calls.quiet_of_same (HK.out _ _ (.inl rfl))) | (go_at_call 21; exact Calls.quiet_of_same (HK.out _ _ (.inr rfl))))
  go_wp2_with fail
  with_reducible refine (HMp.out _).mono ?_
  rintro e w' ⟨rfl, rfl⟩
  go_wp2_with fail
  with_reducible refine (HNp.out _).mono ?_
  rintro e w' ⟨rfl, rfl⟩
  go_wp2_with fail
  with_reducible refine (word_any _ mp (by omega)).mono ?_
  rintro e w1 ⟨Aw, nw, cw, xw, rfl, hnum, hlw, hb⟩
  have bl := (((BlkL.new w [.float .f64 p, .float .f64 b, .int .i64 (h : Int)] 62).alloc _).drewN _).below hb
  have br := ((BlkL.new _ [.int .i64 0, .int .i64 0] 57).drewN _).below hb
  simp only [World.size_alloc] at br
  have HB1 := Lib.hid ((below_drewN (((Below.refl w.heap.size w).alloc (Nat.le_refl _) _).alloc (by simp) _) _).trans (hb.mono (by simp; omega)))
  have Nw1 := Lib.hid hnum
  clear hb hnum
  have cl0 := bl.cell 0 _ rfl
  have cl1 := bl.cell 1 _ rfl
  have cl2 := bl.cell 2 _ rfl
  have cr0 := br.cell 0 _ rfl
  have cr1 := br.cell 1 _ rfl
  have fr0 := br.froz 0 (by simp)
  have fr1 := br.froz 1 (by simp)
  have BL1 := Lib.hid bl
  have BR1 := Lib.hid br
  clear bl br
  go_wp2_with fail
  with_reducible refine (shift3_any _ _ _ _ ep _ mp Nw1.out (by omega) (by omega) (by omega)).mono ?_
  rintro e w2 ⟨Aa, na, ca, xa, Ab, nb, cb, xb, rfl, hnum, hnum2, hla, hlb, hb⟩
  have bl := BL1.out.below hb
  have br := BR1.out.below hb
  have HB2 := Lib.hid (HB1.out.trans (hb.mono HB1.out.size))
  have Na2 := Lib.hid hnum
  have Nb2 := Lib.hid hnum2
  clear hnum hnum2
  clear hb cl0 cl1 cl2 cr0 cr1 fr0 fr1
  have cl0 := bl.cell 0 _ rfl
  have cl1 := bl.cell 1 _ rfl
  have cl2 := bl.cell 2 _ rfl
  have cr0 := br.cell 0 _ rfl
  have cr1 := br.cell 1 _ rfl
  have fr0 := br.froz 0 (by simp)
  have fr1 := br.froz 1 (by simp)
  have BL2 := Lib.hid bl
  have BR2 := Lib.hid br
  clear bl br
  go_wp2_with fail
  with_reducible refine (word_any _ h (by omega)).mono ?_
  rintro e w3 ⟨Az, nz, cz, xz, rfl, hnum, hlz, hb⟩
  have Na3 := Lib.hid (Na2.out.below hb)
  have Nb3 := Lib.hid (Nb2.out.below hb)
  have bl := BL2.out.below hb
  have br := BR2.out.below hb
  have HB3 := Lib.hid (HB2.out.trans (hb.mono HB2.out.size))
  have Nz3 := Lib.hid hnum
  clear hnum
  clear hb cl0 cl1 cl2 cr0 cr1 fr0 fr1
  have cl0 := bl.cell 0 _ rfl
  have cl1 := bl.cell 1 _ rfl
  have cl2 := bl.cell 2 _ rfl
  have cr0 := br.cell 0 _ rfl
  have cr1 := br.cell 1 _ rfl
  have fr0 := br.froz 0 (by simp)
  have fr1 := br.froz 1 (by simp)
  have BL3 := Lib.hid bl
  have BR3 := Lib.hid br
  clear bl br
  go_wp2_with fail
  with_reducible refine (times_any _ _ _ _ _ _ _ _ _ h (dnN ep) Nz3.out Nb3.out (by omega) (by omega)).mono ?_
  rintro e w4 ⟨Aq, nq, cq, xq, rfl, hnum, hlq, hb⟩
  have Na4 := Lib.hid (Na3.out.below hb)
  have bl := BL3.out.below hb
  have br := BR3.out.below hb
  have HB4 := Lib.hid (HB3.out.trans (hb.mono HB3.out.size))
  have Nq4 := Lib.hid hnum
  clear hnum
  clear hb cl0 cl1 cl2 cr0 cr1 fr0 fr1
  have cl0 := bl.cell 0 _ rfl
  have cl1 := bl.cell 1 _ rfl
  have cl2 := bl.cell 2 _ rfl
  have cr0 := br.cell 0 _ rfl
  have cr1 := br.cell 1 _ rfl
  have fr0 := br.froz 0 (by simp)
  have fr1 := br.froz 1 (by simp)
  have BL4 := Lib.hid bl
  have BR4 := Lib.hid br
  clear bl br
  go_wp2_with fail
  with_reducible refine (whole3_1 _ _ _ _ _ _ _ _ _ (h * dnN ep) (upN mp ep) Nq4.out Na4.out (by omega) (by omega) hup).mono ?_
  rintro e w5 ⟨At, nt, ct, xt, rfl, hnum, hlt, hb⟩
  have bl := BL4.out.below hb
  have br := BR4.out.below hb
  have HB5 := Lib.hid (HB4.out.trans (hb.mono HB4.out.size))
  have Nt5 := Lib.hid hnum
  clear hnum
  clear hb cl0 cl1 cl2 cr0 cr1 fr0 fr1
  have cl0 := bl.cell 0 _ rfl
  have cl1 := bl.cell 1 _ rfl
  have cl2 := bl.cell 2 _ rfl
  have cr0 := br.cell 0 _ rfl
  have cr1 := br.cell 1 _ rfl
  have fr0 := br.froz 0 (by simp)
  have fr1 := br.froz 1 (by simp)
  have BL5 := Lib.hid bl
  have BR5 := Lib.hid br
  clear bl br
  go_wp2_with fail
  with_reducible refine (tick_ok5 _ _ _ _ _ _ T Nt5.out HT.out (by omega)).mono ?_
  rintro e w' ⟨rfl, rfl⟩
  go_wp2_with fail
  with_reducible refine (HNb.out _).mono ?_
  rintro e w' ⟨rfl, rfl⟩
  go_wp2_with fail
  with_reducible refine (word_any _ mb (by omega)).mono ?_
  rintro e w6 ⟨Av, nv, cv, xv, rfl, hnum, hlv, hb⟩
  have bl := BL5.out.below hb
  have br := BR5.out.below hb
  have HB6 := Lib.hid (HB5.out.trans (hb.mono HB5.out.size))
  have Nv6 := Lib.hid hnum
  clear hnum
  clear hb cl0 cl1 cl2 cr0 cr1 fr0 fr1
  have cl0 := bl.cell 0 _ rfl
  have cl1 := bl.cell 1 _ rfl
  have cl2 := bl.cell 2 _ rfl
  have cr0 := br.cell 0 _ rfl
  have cr1 := br.cell 1 _ rfl
  have fr0 := br.froz 0 (by simp)
  have fr1 := br.froz 1 (by simp)
  have BL6 := Lib.hid bl
  have BR6 := Lib.hid br
  clear bl br
  go_wp2_with fail
  with_reducible refine (shift3_any _ _ _ _ eb _ mb Nv6.out (by omega) (by omega) (by omega)).mono ?_
  rintro e w7 ⟨Ac, nc, cc, xc, Ad, nd, cd, xd, rfl, hnum, hnum2, hlc, hld, hb⟩
  have bl := BL6.out.below hb
  have br := BR6.out.below hb
  have HB7 := Lib.hid (HB6.out.trans (hb.mono HB6.out.size))
  have Nc7 := Lib.hid hnum
  have Nd7 := Lib.hid hnum2
  clear hnum hnum2
  clear hb cl0 cl1 cl2 cr0 cr1 fr0 fr1
  have cl0 := bl.cell 0 _ rfl
  have cl1 := bl.cell 1 _ rfl
  have cl2 := bl.cell 2 _ rfl
  have cr0 := br.cell 0 _ rfl
  have cr1 := br.cell 1 _ rfl
  have fr0 := br.froz 0 (by simp)
  have fr1 := br.froz 1 (by simp)
  have BL7 := Lib.hid bl
  have BR7 := Lib.hid br
  clear bl br
  go_wp2_with fail
  with_reducible refine (word_any _ T (by omega)).mono ?_
  rintro e w8 ⟨Ay, ny, cy, xy, rfl, hnum, hly, hb⟩
  have Nc8 := Lib.hid (Nc7.out.below hb)
  have Nd8 := Lib.hid (Nd7.out.below hb)
  have bl := BL7.out.below hb
  have br := BR7.out.below hb
  have HB8 := Lib.hid (HB7.out.trans (hb.mono HB7.out.size))
  have Ny8 := Lib.hid hnum
  clear hnum
  clear hb cl0 cl1 cl2 cr0 cr1 fr0 fr1
  have cl0 := bl.cell 0 _ rfl
  have cl1 := bl.cell 1 _ rfl
  have cl2 := bl.cell 2 _ rfl
  have cr0 := br.cell 0 _ rfl
  have cr1 := br.cell 1 _ rfl
  have fr0 := br.froz 0 (by simp)
  have fr1 := br.froz 1 (by simp)
  have BL8 := Lib.hid bl
  have BR8 := Lib.hid br
  clear bl br
  go_wp2_with fail
  with_reducible refine (times_any _ _ _ _ _ _ _ _ _ T (upN mb eb) Ny8.out Nc8.out (by omega) (by omega)).mono ?_
  rintro e w9 ⟨Ar, nr, cr, xr, rfl, hnum, hlr, hb⟩
  have Nd9 := Lib.hid (Nd8.out.below hb)
  have bl := BL8.out.below hb
  have br := BR8.out.below hb
  have HB9 := Lib.hid (HB8.out.trans (hb.mono HB8.out.size))
  have Nr9 := Lib.hid hnum
  clear hnum
  clear hb cl0 cl1 cl2 cr0 cr1 fr0 fr1
  have cl0 := bl.cell 0 _ rfl
  have cl1 := bl.cell 1 _ rfl
  have cl2 := bl.cell 2 _ rfl
  have cr0 := br.cell 0 _ rfl
  have cr1 := br.cell 1 _ rfl
  have fr0 := br.froz 0 (by simp)
  have fr1 := br.froz 1 (by simp)
  have BL9 := Lib.hid bl
  have BR9 := Lib.hid br
  clear bl br
  go_wp2_with fail
  with_reducible refine (whole3_0 _ _ _ _ _ _ _ _ _ (T * upN mb eb) (dnN eb) Nr9.out Nd9.out (by omega) (by omega) (dnN_pos eb)).mono ?_
  rintro e w10 ⟨Au, nu, cu, xu, rfl, hnum, hlu, hb⟩
  have bl := BL9.out.below hb
  have br := BR9.out.below hb
  have HB10 := Lib.hid (HB9.out.trans (hb.mono HB9.out.size))
  have Nu10 := Lib.hid hnum
  clear hnum
  clear hb cl0 cl1 cl2 cr0 cr1 fr0 fr1
  have cl0 := bl.cell 0 _ rfl
  have cl1 := bl.cell 1 _ rfl
  have cl2 := bl.cell 2 _ rfl
  have cr0 := br.cell 0 _ rfl
  have cr1 := br.cell 1 _ rfl
  have fr0 := br.froz 0 (by simp)
  have fr1 := br.froz 1 (by simp)
  have BL10 := Lib.hid bl
  have BR10 := Lib.hid br
  clear bl br
  go_wp2_with fail
  with_reducible refine (tick_ok5 _ _ _ _ _ _ U Nu10.out HU.out (by omega)).mono ?_
  rintro e w' ⟨rfl, rfl⟩
  go_wp2
  have bz := BR10.out.put2 (.int .i64 (T : Int)) (.int .i64 (U : Int))
  have z0 := bz.cell 0 _ rfl
  have z1 := bz.cell 1 _ rfl
  have hbz := below_put2 HB10.out (b := w.heap.size + 1) (by omega) (.int .i64 (T : Int)) (.int .i64 (U : Int))
  clear bz
  exact bodyPost_ret (v := .tuple #[.agg #[.int .i64 (T : Int), .int .i64 (U : Int)], .int .i64 0]) (by simp [results, Tryd.results42, go_sem, z0, z1]) rfl ⟨rfl, hbz⟩


set_option maxHeartbeats 3200000 in
theorem docof_no11 (w : World) (p b : Nat) (h mp : Nat) (ep : Int)
    (HK : Hid (∀ w c, c = p ∨ c = b → Calls Tryd.prog 21 #[.float .f64 c] w fun e w' => e = .returned (.int .i64 (kindB c : Int)) ∧ w' = w))
    (t1 : decide ((h : Int) < 1) = false)
    (t2 : decide (1000000000 < (h : Int)) = false)
    (q4p : ((kindB p : Int) == 4) = false)
    (q4b : ((kindB b : Int) == 4) = false)
    (q3p : ((kindB p : Int) == 3) = false)
    (q0p : ((kindB p : Int) == 0) = false)
    (HMp : Hid (∀ w, Calls Tryd.prog 23 #[.float .f64 p] w fun e w' => e = .returned (.bool false) ∧ w = w'))
    (q3b : ((kindB b : Int) == 3) = false)
    (qgb : decide (0 < kindB b) = true)
    (HMb : Hid (∀ w, Calls Tryd.prog 23 #[.float .f64 b] w fun e w' => e = .returned (.bool false) ∧ w = w'))
    (hh : h ≤ 1000000000)
    (HNp : Hid (∀ w, Calls Tryd.prog 55 #[.float .f64 p] w fun e w' => e = .returned (.tuple #[.int .u64 (mp : Int), .int .i64 ep]) ∧ w = w'))
    (hmp : mp < 9007199254740992)
    (hmp0 : 0 < mp)
    (hep : -1074 ≤ ep ∧ ep ≤ 972)
    (hT : ¬ roundV (h * dnN ep) (upN mp ep) 1 ≤ 4611686018427387903) :
    Calls Tryd.prog 42 #[.agg #[.float .f64 p, .float .f64 b, .int .i64 (h : Int)]] w (ValEnd w (.tuple #[.agg #[.int .i64 0, .int .i64 0], .int .i64 5])) := by
  have hup : 0 < upN mp ep := Nat.mul_pos hmp0 (Nat.pow_pos (by omega))
  have eh : IntKind.u64.wrap (h : Int) = (h : Int) := u64_in (by omega) (by omega)
  have HT := Lib.hid hT
  clear hT
  go_enter Tryd.func42, Tryd.ntmps42
  go_wp2_with fail
  go_quiet (first | (go_at_call 21; exact Calls.quiet_of_same (HK.out _ _ (.inl rfl))) | (go_at_call 21; exact Calls.quiet_of_same (HK.out _ _ (.inr rfl))))
  go_wp2_with fail
  with_reducible refine (HMp.out _).mono ?_
  rintro e w' ⟨rfl, rfl⟩
  go_wp2_with fail
  with_reducible refine (HMb.out _).mono ?_
  rintro e w' ⟨rfl, rfl⟩
  go_wp2_with fail
  with_reducible refine (HNp.out _).mono ?_
  rintro e w' ⟨rfl, rfl⟩
  go_wp2_with fail
  with_reducible refine (word_any _ mp (by omega)).mono ?_
  rintro e w1 ⟨Aw, nw, cw, xw, rfl, hnum, hlw, hb⟩
  have bl := (((BlkL.new w [.float .f64 p, .float .f64 b, .int .i64 (h : Int)] 62).alloc _).drewN _).below hb
  have br := ((BlkL.new _ [.int .i64 0, .int .i64 0] 57).drewN _).below hb
  simp only [World.size_alloc] at br
  have HB1 := Lib.hid ((below_drewN (((Below.refl w.heap.size w).alloc (Nat.le_refl _) _).alloc (by simp) _) _).trans (hb.mono (by simp; omega)))
  have Nw1 := Lib.hid hnum
  clear hb hnum
  have cl0 := bl.cell 0 _ rfl
  have cl1 := bl.cell 1 _ rfl
  have cl2 := bl.cell 2 _ rfl
  have cr0 := br.cell 0 _ rfl
  have cr1 := br.cell 1 _ rfl
  have fr0 := br.froz 0 (by simp)
  have fr1 := br.froz 1 (by simp)
  have BL1 := Lib.hid bl
  have BR1 := Lib.hid br
  clear bl br
  go_wp2_with fail
  with_reducible refine (shift3_any _ _ _ _ ep _ mp Nw1.out (by omega) (by omega) (by omega)).mono ?_
  rintro e w2 ⟨Aa, na, ca, xa, Ab, nb, cb, xb, rfl, hnum, hnum2, hla, hlb, hb⟩
  have bl := BL1.out.below hb
  have br := BR1.out.below hb
  have HB2 := Lib.hid (HB1.out.trans (hb.mono HB1.out.size))
  have Na2 := Lib.hid hnum
  have Nb2 := Lib.hid hnum2
  clear hnum hnum2
  clear hb cl0 cl1 cl2 cr0 cr1 fr0 fr1
  have cl0 := bl.cell 0 _ rfl
  have cl1 := bl.cell 1 _ rfl
  have cl2 := bl.cell 2 _ rfl
  have cr0 := br.cell 0 _ rfl
  have cr1 := br.cell 1 _ rfl
  have fr0 := br.froz 0 (by simp)
  have fr1 := br.froz 1 (by simp)
  have BL2 := Lib.hid bl
  have BR2 := Lib.hid br
  clear bl br
  go_wp2_with fail
  with_reducible refine (word_any _ h (by omega)).mono ?_
  rintro e w3 ⟨Az, nz, cz, xz, rfl, hnum, hlz, hb⟩
  have Na3 := Lib.hid (Na2.out.below hb)
  have Nb3 := Lib.hid (Nb2.out.below hb)
  have bl := BL2.out.below hb
  have br := BR2.out.below hb
  have HB3 := Lib.hid (HB2.out.trans (hb.mono HB2.out.size))
  have Nz3 := Lib.hid hnum
  clear hnum
  clear hb cl0 cl1 cl2 cr0 cr1 fr0 fr1
  have cl0 := bl.cell 0 _ rfl
  have cl1 := bl.cell 1 _ rfl
  have cl2 := bl.cell 2 _ rfl
  have cr0 := br.cell 0 _ rfl
  have cr1 := br.cell 1 _ rfl
  have fr0 := br.froz 0 (by simp)
  have fr1 := br.froz 1 (by simp)
  have BL3 := Lib.hid bl
  have BR3 := Lib.hid br
  clear bl br
  go_wp2_with fail
  with_reducible refine (times_any _ _ _ _ _ _ _ _ _ h (dnN ep) Nz3.out Nb3.out (by omega) (by omega)).mono ?_
  rintro e w4 ⟨Aq, nq, cq, xq, rfl, hnum, hlq, hb⟩
  have Na4 := Lib.hid (Na3.out.below hb)
  have bl := BL3.out.below hb
  have br := BR3.out.below hb
  have HB4 := Lib.hid (HB3.out.trans (hb.mono HB3.out.size))
  have Nq4 := Lib.hid hnum
  clear hnum
  clear hb cl0 cl1 cl2 cr0 cr1 fr0 fr1
  have cl0 := bl.cell 0 _ rfl
  have cl1 := bl.cell 1 _ rfl
  have cl2 := bl.cell 2 _ rfl
  have cr0 := br.cell 0 _ rfl
  have cr1 := br.cell 1 _ rfl
  have fr0 := br.froz 0 (by simp)
  have fr1 := br.froz 1 (by simp)
  have BL4 := Lib.hid bl
  have BR4 := Lib.hid br
  clear bl br
  go_wp2_with fail
  with_reducible refine (whole3_1 _ _ _ _ _ _ _ _ _ (h * dnN ep) (upN mp ep) Nq4.out Na4.out (by omega) (by omega) hup).mono ?_
  rintro e w5 ⟨At, nt, ct, xt, rfl, hnum, hlt, hb⟩
  have bl := BL4.out.below hb
  have br := BR4.out.below hb
  have HB5 := Lib.hid (HB4.out.trans (hb.mono HB4.out.size))
  have Nt5 := Lib.hid hnum
  clear hnum
  clear hb cl0 cl1 cl2 cr0 cr1 fr0 fr1
  have cl0 := bl.cell 0 _ rfl
  have cl1 := bl.cell 1 _ rfl
  have cl2 := bl.cell 2 _ rfl
  have cr0 := br.cell 0 _ rfl
  have cr1 := br.cell 1 _ rfl
  have fr0 := br.froz 0 (by simp)
  have fr1 := br.froz 1 (by simp)
  have BL5 := Lib.hid bl
  have BR5 := Lib.hid br
  clear bl br
  go_wp2_with fail
  with_reducible refine (tick_no5 _ _ _ _ _ _ Nt5.out HT.out).mono ?_
  rintro e w' ⟨v0, rfl, rfl⟩
  go_wp2
  have bz := BR5.out.put2 (.int .i64 0) (.int .i64 0)
  have z0 := bz.cell 0 _ rfl
  have z1 := bz.cell 1 _ rfl
  have hbz := below_put2 HB5.out (b := w.heap.size + 1) (by omega) (.int .i64 0) (.int .i64 0)
  clear bz
  exact bodyPost_ret (v := .tuple #[.agg #[.int .i64 0, .int .i64 0], .int .i64 5]) (by simp [results, Tryd.results42, go_sem, z0, z1]) rfl ⟨rfl, hbz⟩


set_option maxHeartbeats 3200000 in
theorem docof_no21 (w : World) (p b : Nat) (h mp : Nat) (ep : Int) (T mb : Nat) (eb : Int)
    (HK : Hid (∀ w c, c = p ∨ c = b → Calls Tryd.prog 21 #[.float .f64 c] w fun e w' => e = .returned (.int .i64 (kindB c : Int)) ∧ w' = w))
    (t1 : decide ((h : Int) < 1) = false)
    (t2 : decide (1000000000 < (h : Int)) = false)
    (q4p : ((kindB p : Int) == 4) = false)
    (q4b : ((kindB b : Int) == 4) = false)
    (q3p : ((kindB p : Int) == 3) = false)
    (q0p : ((kindB p : Int) == 0) = false)
    (HMp : Hid (∀ w, Calls Tryd.prog 23 #[.float .f64 p] w fun e w' => e = .returned (.bool false) ∧ w = w'))
    (q3b : ((kindB b : Int) == 3) = false)
    (qgb : decide (0 < kindB b) = true)
    (HMb : Hid (∀ w, Calls Tryd.prog 23 #[.float .f64 b] w fun e w' => e = .returned (.bool false) ∧ w = w'))
    (hh : h ≤ 1000000000)
    (HNp : Hid (∀ w, Calls Tryd.prog 55 #[.float .f64 p] w fun e w' => e = .returned (.tuple #[.int .u64 (mp : Int), .int .i64 ep]) ∧ w = w'))
    (hmp : mp < 9007199254740992)
    (hmp0 : 0 < mp)
    (hep : -1074 ≤ ep ∧ ep ≤ 972)
    (hT : roundV (h * dnN ep) (upN mp ep) 1 = T)
    (hT1 : 1 ≤ T)
    (hT2 : T ≤ 4611686018427387903)
    (HNb : Hid (∀ w, Calls Tryd.prog 55 #[.float .f64 b] w fun e w' => e = .returned (.tuple #[.int .u64 (mb : Int), .int .i64 eb]) ∧ w = w'))
    (hmb : mb < 9007199254740992)
    (heb : -1074 ≤ eb ∧ eb ≤ 972)
    (hU : ¬ roundV (T * upN mb eb) (dnN eb) 0 ≤ 4611686018427387903) :
    Calls Tryd.prog 42 #[.agg #[.float .f64 p, .float .f64 b, .int .i64 (h : Int)]] w (ValEnd w (.tuple #[.agg #[.int .i64 0, .int .i64 0], .int .i64 5])) := by
  have hup : 0 < upN mp ep := Nat.mul_pos hmp0 (Nat.pow_pos (by omega))
  have eh : IntKind.u64.wrap (h : Int) = (h : Int) := u64_in (by omega) (by omega)
  have HT := Lib.hid hT
  clear hT
  have eT : IntKind.u64.wrap (T : Int) = (T : Int) := u64_in (by omega) (by omega)
  have hTn : ¬ T < 1 := by omega
  have hT3 : (1 : Int) ≤ T := by omega
  have hmx : max (T : Int) 1 = (T : Int) := by omega
  have HU := Lib.hid hU
  clear hU
  go_enter Tryd.func42, Tryd.ntmps42
  go_wp2_with fail
  go_quiet (first | (go_at_call 21; exact Calls.quiet_of_same (HK.out _ _ (.inl rfl))) | (go_at_call 21; exact Calls.quiet_of_same (HK.out _ _ (.inr rfl))))
  go_wp2_with fail
  with_reducible refine (HMp.out _).mono ?_
  rintro e w' ⟨rfl, rfl⟩
  go_wp2_with fail
  with_reducible refine (HMb.out _).mono ?_
  rintro e w' ⟨rfl, rfl⟩
  go_wp2_with fail
  with_reducible refine (HNp.out _).mono ?_
  rintro e w' ⟨rfl, rfl⟩
  go_wp2_with fail
  with_reducible refine (word_any _ mp (by omega)).mono ?_
  rintro e w1 ⟨Aw, nw, cw, xw, rfl, hnum, hlw, hb⟩
  have bl := (((BlkL.new w [.float .f64 p, .float .f64 b, .int .i64 (h : Int)] 62).alloc _).drewN _).below hb
  have br := ((BlkL.new _ [.int .i64 0, .int .i64 0] 57).drewN _).below hb
  simp only [World.size_alloc] at br
  have HB1 := Lib.hid ((below_drewN (((Below.refl w.heap.size w).alloc (Nat.le_refl _) _).alloc (by simp) _) _).trans (hb.mono (by simp; omega)))
  have Nw1 := Lib.hid hnum
  clear hb hnum
  have cl0 := bl.cell 0 _ rfl
  have cl1 := bl.cell 1 _ rfl
  have cl2 := bl.cell 2 _ rfl
  have cr0 := br.cell 0 _ rfl
  have cr1 := br.cell 1 _ rfl
  have fr0 := br.froz 0 (by simp)
  have fr1 := br.froz 1 (by simp)
  have BL1 := Lib.hid bl
  have BR1 := Lib.hid br
  clear bl br
  go_wp2_with fail
  with_reducible refine (shift3_any _ _ _ _ ep _ mp Nw1.out (by omega) (by omega) (by omega)).mono ?_
  rintro e w2 ⟨Aa, na, ca, xa, Ab, nb, cb, xb, rfl, hnum, hnum2, hla, hlb, hb⟩
  have bl := BL1.out.below hb
  have br := BR1.out.below hb
  have HB2 := Lib.hid (HB1.out.trans (hb.mono HB1.out.size))
  have Na2 := Lib.hid hnum
  have Nb2 := Lib.hid hnum2
  clear hnum hnum2
  clear hb cl0 cl1 cl2 cr0 cr1 fr0 fr1
  have cl0 := bl.cell 0 _ rfl
  have cl1 := bl.cell 1 _ rfl
  have cl2 := bl.cell 2 _ rfl
  have cr0 := br.cell 0 _ rfl
  have cr1 := br.cell 1 _ rfl
  have fr0 := br.froz 0 (by simp)
  have fr1 := br.froz 1 (by simp)
  have BL2 := Lib.hid bl
  have BR2 := Lib.hid br
  clear bl br
  go_wp2_with fail
  with_reducible refine (word_any _ h (by omega)).mono ?_
  rintro e w3 ⟨Az, nz, cz, xz, rfl, hnum, hlz, hb⟩
  have Na3 := Lib.hid (Na2.out.below hb)
  have Nb3 := Lib.hid (Nb2.out.below hb)
  have bl := BL2.out.below hb
  have br := BR2.out.below hb
  have HB3 := Lib.hid (HB2.out.trans (hb.mono HB2.out.size))
  have Nz3 := Lib.hid hnum
  clear hnum
  clear hb cl0 cl1 cl2 cr0 cr1 fr0 fr1
  have cl0 := bl.cell 0 _ rfl
  have cl1 := bl.cell 1 _ rfl
  have cl2 := bl.cell 2 _ rfl
  have cr0 := br.cell 0 _ rfl
  have cr1 := br.cell 1 _ rfl
  have fr0 := br.froz 0 (by simp)
  have fr1 := br.froz 1 (by simp)
  have BL3 := Lib.hid bl
  have BR3 := Lib.hid br
  clear bl br
  go_wp2_with fail
  with_reducible refine (times_any _ _ _ _ _ _ _ _ _ h (dnN ep) Nz3.out Nb3.out (by omega) (by omega)).mono ?_
  rintro e w4 ⟨Aq, nq, cq, xq, rfl, hnum, hlq, hb⟩
  have Na4 := Lib.hid (Na3.out.below hb)
  have bl := BL3.out.below hb
  have br := BR3.out.below hb
  have HB4 := Lib.hid (HB3.out.trans (hb.mono HB3.out.size))
  have Nq4 := Lib.hid hnum
  clear hnum
  clear hb cl0 cl1 cl2 cr0 cr1 fr0 fr1
  have cl0 := bl.cell 0 _ rfl
  have cl1 := bl.cell 1 _ rfl
  have cl2 := bl.cell 2 _ rfl
  have cr0 := br.cell 0 _ rfl
  have cr1 := br.cell 1 _ rfl
  have fr0 := br.froz 0 (by simp)
  have fr1 := br.froz 1 (by simp)
  have BL4 := Lib.hid bl
  have BR4 := Lib.hid br
  clear bl br
  go_wp2_with fail
  with_reducible refine (whole3_1 _ _ _ _ _ _ _ _ _ (h * dnN ep) (upN mp ep) Nq4.out Na4.out (by omega) (by omega) hup).mono ?_
  rintro e w5 ⟨At, nt, ct, xt, rfl, hnum, hlt, hb⟩
  have bl := BL4.out.below hb
  have br := BR4.out.below hb
  have HB5 := Lib.hid (HB4.out.trans (hb.mono HB4.out.size))
  have Nt5 := Lib.hid hnum
  clear hnum
  clear hb cl0 cl1 cl2 cr0 cr1 fr0 fr1
  have cl0 := bl.cell 0 _ rfl
  have cl1 := bl.cell 1 _ rfl
  have cl2 := bl.cell 2 _ rfl
  have cr0 := br.cell 0 _ rfl
  have cr1 := br.cell 1 _ rfl
  have fr0 := br.froz 0 (by simp)
  have fr1 := br.froz 1 (by simp)
  have BL5 := Lib.hid bl
  have BR5 := Lib.hid br
  clear bl br
  go_wp2_with fail
  with_reducible refine (tick_ok5 _ _ _ _ _ _ T Nt5.out HT.out (by omega)).mono ?_
  rintro e w' ⟨rfl, rfl⟩
  go_wp2_with fail
  with_reducible refine (HNb.out _).mono ?_
  rintro e w' ⟨rfl, rfl⟩
  go_wp2_with fail
  with_reducible refine (word_any _ mb (by omega)).mono ?_
  rintro e w6 ⟨Av, nv, cv, xv, rfl, hnum, hlv, hb⟩
  have bl := BL5.out.below hb
  have br := BR5.out.below hb
  have HB6 := Lib.hid (HB5.out.trans (hb.mono HB5.out.size))
  have Nv6 := Lib.hid hnum
  clear hnum
  clear hb cl0 cl1 cl2 cr0 cr1 fr0 fr1
  have cl0 := bl.cell 0 _ rfl
  have cl1 := bl.cell 1 _ rfl
  have cl2 := bl.cell 2 _ rfl
  have cr0 := br.cell 0 _ rfl
  have cr1 := br.cell 1 _ rfl
  have fr0 := br.froz 0 (by simp)
  have fr1 := br.froz 1 (by simp)
  have BL6 := Lib.hid bl
  have BR6 := Lib.hid br
  clear bl br
  go_wp2_with fail
  with_reducible refine (shift3_any _ _ _ _ eb _ mb Nv6.out (by omega) (by omega) (by omega)).mono ?_
  rintro e w7 ⟨Ac, nc, cc, xc, Ad, nd, cd, xd, rfl, hnum, hnum2, hlc, hld, hb⟩
  have bl := BL6.out.below hb
  have br := BR6.out.below hb
  have HB7 := Lib.hid (HB6.out.trans (hb.mono HB6.out.size))
  have Nc7 := Lib.hid hnum
  have Nd7 := Lib.hid hnum2
  clear hnum hnum2
  clear hb cl0 cl1 cl2 cr0 cr1 fr0 fr1
  have cl0 := bl.cell 0 _ rfl
  have cl1 := bl.cell 1 _ rfl
  have cl2 := bl.cell 2 _ rfl
  have cr0 := br.cell 0 _ rfl
  have cr1 := br.cell 1 _ rfl
  have fr0 := br.froz 0 (by simp)
  have fr1 := br.froz 1 (by simp)
  have BL7 := Lib.hid bl
  have BR7 := Lib.hid br
  clear bl br
  go_wp2_with fail
  with_reducible refine (word_any _ T (by omega)).mono ?_
  rintro e w8 ⟨Ay, ny, cy, xy, rfl, hnum, hly, hb⟩
  have Nc8 := Lib.hid (Nc7.out.below hb)
  have Nd8 := Lib.hid (Nd7.out.below hb)
  have bl := BL7.out.below hb
  have br := BR7.out.below hb
  have HB8 := Lib.hid (HB7.out.trans (hb.mono HB7.out.size))
  have Ny8 := Lib.hid hnum
  clear hnum
  clear hb cl0 cl1 cl2 cr0 cr1 fr0 fr1
  have cl0 := bl.cell 0 _ rfl
  have cl1 := bl.cell 1 _ rfl
  have cl2 := bl.cell 2 _ rfl
  have cr0 := br.cell 0 _ rfl
  have cr1 := br.cell 1 _ rfl
  have fr0 := br.froz 0 (by simp)
  have fr1 := br.froz 1 (by simp)
  have BL8 := Lib.hid bl
  have BR8 := Lib.hid br
  clear bl br
  go_wp2_with fail
  with_reducible refine (times_any _ _ _ _ _ _ _ _ _ T (upN mb eb) Ny8.out Nc8.out (by omega) (by omega)).mono ?_
  rintro e w9 ⟨Ar, nr, cr, xr, rfl, hnum, hlr, hb⟩
  have Nd9 := Lib.hid (Nd8.out.below hb)
  have bl := BL8.out.below hb
  have br := BR8.out.below hb
  have HB9 := Lib.hid (HB8.out.trans (hb.mono HB8.out.size))
  have Nr9 := Lib.hid hnum
  clear hnum
  clear hb cl0 cl1 cl2 cr0 cr1 fr0 fr1
  have cl0 := bl.cell 0 _ rfl
  have cl1 := bl.cell 1 _ rfl
  have cl2 := bl.cell 2 _ rfl
  have cr0 := br.cell 0 _ rfl
  have cr1 := br.cell 1 _ rfl
  have fr0 := br.froz 0 (by simp)
  have fr1 := br.froz 1 (by simp)
  have BL9 := Lib.hid bl
  have BR9 := Lib.hid br
  clear bl br
  go_wp2_with fail
  with_reducible refine (whole3_0 _ _ _ _ _ _ _ _ _ (T * upN mb eb) (dnN eb) Nr9.out Nd9.out (by omega) (by omega) (dnN_pos eb)).mono ?_
  rintro e w10 ⟨Au, nu, cu, xu, rfl, hnum, hlu, hb⟩
  have bl := BL9.out.below hb
  have br := BR9.out.below hb
  have HB10 := Lib.hid (HB9.out.trans (hb.mono HB9.out.size))
  have Nu10 := Lib.hid hnum
  clear hnum
  clear hb cl0 cl1 cl2 cr0 cr1 fr0 fr1
  have cl0 := bl.cell 0 _ rfl
  have cl1 := bl.cell 1 _ rfl
  have cl2 := bl.cell 2 _ rfl
  have cr0 := br.cell 0 _ rfl
  have cr1 := br.cell 1 _ rfl
  have fr0 := br.froz 0 (by simp)
  have fr1 := br.froz 1 (by simp)
  have BL10 := Lib.hid bl
  have BR10 := Lib.hid br
  clear bl br
  go_wp2_with fail
  with_reducible refine (tick_no5 _ _ _ _ _ _ Nu10.out HU.out).mono ?_
  rintro e w' ⟨v0, rfl, rfl⟩
  go_wp2
  have bz := BR10.out.put2 (.int .i64 0) (.int .i64 0)
  have z0 := bz.cell 0 _ rfl
  have z1 := bz.cell 1 _ rfl
  have hbz := below_put2 HB10.out (b := w.heap.size + 1) (by omega) (.int .i64 0) (.int .i64 0)
  clear bz
  exact bodyPost_ret (v := .tuple #[.agg #[.int .i64 0, .int .i64 0], .int .i64 5]) (by simp [results, Tryd.results42, go_sem, z0, z1]) rfl ⟨rfl, hbz⟩


set_option maxHeartbeats 3200000 in
theorem docof_ok1 (w : World) (p b : Nat) (h mp : Nat) (ep : Int) (T mb : Nat) (eb : Int) (U : Nat)
    (HK : Hid (∀ w c, c = p ∨ c = b → Calls Tryd.prog 21 #[.float .f64 c] w fun e w' => e = .returned (.int .i64 (kindB c : Int)) ∧ w' = w))
    (t1 : decide ((h : Int) < 1) = false)
    (t2 : decide (1000000000 < (h : Int)) = false)
    (q4p : ((kindB p : Int) == 4) = false)
    (q4b : ((kindB b : Int) == 4) = false)
    (q3p : ((kindB p : Int) == 3) = false)
    (q0p : ((kindB p : Int) == 0) = false)
    (HMp : Hid (∀ w, Calls Tryd.prog 23 #[.float .f64 p] w fun e w' => e = .returned (.bool false) ∧ w = w'))
    (q3b : ((kindB b : Int) == 3) = false)
    (qgb : decide (0 < kindB b) = true)
    (HMb : Hid (∀ w, Calls Tryd.prog 23 #[.float .f64 b] w fun e w' => e = .returned (.bool false) ∧ w = w'))
    (hh : h ≤ 1000000000)
    (HNp : Hid (∀ w, Calls Tryd.prog 55 #[.float .f64 p] w fun e w' => e = .returned (.tuple #[.int .u64 (mp : Int), .int .i64 ep]) ∧ w = w'))
    (hmp : mp < 9007199254740992)
    (hmp0 : 0 < mp)
    (hep : -1074 ≤ ep ∧ ep ≤ 972)
    (hT : roundV (h * dnN ep) (upN mp ep) 1 = T)
    (hT1 : 1 ≤ T)
    (hT2 : T ≤ 4611686018427387903)
    (HNb : Hid (∀ w, Calls Tryd.prog 55 #[.float .f64 b] w fun e w' => e = .returned (.tuple #[.int .u64 (mb : Int), .int .i64 eb]) ∧ w = w'))
    (hmb : mb < 9007199254740992)
    (heb : -1074 ≤ eb ∧ eb ≤ 972)
    (hU : roundV (T * upN mb eb) (dnN eb) 0 = U)
    (hU2 : U ≤ 4611686018427387903) :
    Calls Tryd.prog 42 #[.agg #[.float .f64 p, .float .f64 b, .int .i64 (h : Int)]] w (ValEnd w (.tuple #[.agg #[.int .i64 (T : Int), .int .i64 (U : Int)], .int .i64 0])) := by
  have hup : 0 < upN mp ep := Nat.mul_pos hmp0 (Nat.pow_pos (by omega))
  have eh : IntKind.u64.wrap (h : Int) = (h : Int) := u64_in (by omega) (by omega)
  have HT := Lib.hid hT
  clear hT
  have eT : IntKind.u64.wrap (T : Int) = (T : Int) := u64_in (by omega) (by omega)
  have hTn : ¬ T < 1 := by omega
  have hT3 : (1 : Int) ≤ T := by omega
  have hmx : max (T : Int) 1 = (T : Int) := by omega
  have HU := Lib.hid hU
  clear hU
  go_enter Tryd.func42, Tryd.ntmps42
  go_wp2_with fail
  go_quiet (first | (go_at_call 21; exact Calls.quiet_of_same (HK.out _ _ (.inl rfl))) | (go_at_call 21; exact Calls.quiet_of_same (HK.out _ _ (.inr rfl))))
  go_wp2_with fail
  with_reducible refine (HMp.out _).mono ?_
  rintro e w' ⟨rfl, rfl⟩
  go_wp2_with fail
  with_reducible refine (HMb.out _).mono ?_
  rintro e w' ⟨rfl, rfl⟩
  go_wp2_with fail
  with_reducible refine (HNp.out _).mono ?_
  rintro e w' ⟨rfl, rfl⟩
  go_wp2_with fail
  with_reducible refine (word_any _ mp (by omega)).mono ?_
  rintro e w1 ⟨Aw, nw, cw, xw, rfl, hnum, hlw, hb⟩
  have bl := (((BlkL.new w [.float .f64 p, .float .f64 b, .int .i64 (h : Int)] 62).alloc _).drewN _).below hb
  have br := ((BlkL.new _ [.int .i64 0, .int .i64 0] 57).drewN _).below hb
  simp only [World.size_alloc] at br
  have HB1 := Lib.hid ((below_drewN (((Below.refl w.heap.size w).alloc (Nat.le_refl _) _).alloc (by simp) _) _).trans (hb.mono (by simp; omega)))
  have Nw1 := Lib.hid hnum
  clear hb hnum
  have cl0 := bl.cell 0 _ rfl
  have cl1 := bl.cell 1 _ rfl
  have cl2 := bl.cell 2 _ rfl
  have cr0 := br.cell 0 _ rfl
  have cr1 := br.cell 1 _ rfl
  have fr0 := br.froz 0 (by simp)
  have fr1 := br.froz 1 (by simp)
  have BL1 := Lib.hid bl
  have BR1 := Lib.hid br
  clear bl br
  go_wp2_with fail
  with_reducible refine (shift3_any _ _ _ _ ep _ mp Nw1.out (by omega) (by omega) (by omega)).mono ?_
  rintro e w2 ⟨Aa, na, ca, xa, Ab, nb, cb, xb, rfl, hnum, hnum2, hla, hlb, hb⟩
  have bl := BL1.out.below hb
  have br := BR1.out.below hb
  have HB2 := Lib.hid (HB1.out.trans (hb.mono HB1.out.size))
  have Na2 := Lib.hid hnum
  have Nb2 := Lib.hid hnum2
  clear hnum hnum2
  clear hb cl0 cl1 cl2 cr0 cr1 fr0 fr1
  have cl0 := bl.cell 0 _ rfl
  have cl1 := bl.cell 1 _ rfl
  have cl2 := bl.cell 2 _ rfl
  have cr0 := br.cell 0 _ rfl
  have cr1 := br.cell 1 _ rfl
  have fr0 := br.froz 0 (by simp)
  have fr1 := br.froz 1 (by simp)
  have BL2 := Lib.hid bl
  have BR2 := Lib.hid br
  clear bl br
  go_wp2_with fail
  with_reducible refine (word_any _ h (by omega)).mono ?_
  rintro e w3 ⟨Az, nz, cz, xz, rfl, hnum, hlz, hb⟩
  have Na3 := Lib.hid (Na2.out.below hb)
  have Nb3 := Lib.hid (Nb2.out.below hb)
  have bl := BL2.out.below hb
  have br := BR2.out.below hb
  have HB3 := Lib.hid (HB2.out.trans (hb.mono HB2.out.size))
  have Nz3 := Lib.hid hnum
  clear hnum
  clear hb cl0 cl1 cl2 cr0 cr1 fr0 fr1
  have cl0 := bl.cell 0 _ rfl
  have cl1 := bl.cell 1 _ rfl
  have cl2 := bl.cell 2 _ rfl
  have cr0 := br.cell 0 _ rfl
  have cr1 := br.cell 1 _ rfl
  have fr0 := br.froz 0 (by simp)
  have fr1 := br.froz 1 (by simp)
  have BL3 := Lib.hid bl
  have BR3 := Lib.hid br
  clear bl br
  go_wp2_with fail
  with_reducible refine (times_any _ _ _ _ _ _ _ _ _ h (dnN ep) Nz3.out Nb3.out (by omega) (by omega)).mono ?_
  rintro e w4 ⟨Aq, nq, cq, xq, rfl, hnum, hlq, hb⟩
  have Na4 := Lib.hid (Na3.out.below hb)
  have bl := BL3.out.below hb
  have br := BR3.out.below hb
  have HB4 := Lib.hid (HB3.out.trans (hb.mono HB3.out.size))
  have Nq4 := Lib.hid hnum
  clear hnum
  clear hb cl0 cl1 cl2 cr0 cr1 fr0 fr1
  have cl0 := bl.cell 0 _ rfl
  have cl1 := bl.cell 1 _ rfl
  have cl2 := bl.cell 2 _ rfl
  have cr0 := br.cell 0 _ rfl
  have cr1 := br.cell 1 _ rfl
  have fr0 := br.froz 0 (by simp)
  have fr1 := br.froz 1 (by simp)
  have BL4 := Lib.hid bl
  have BR4 := Lib.hid br
  clear bl br
  go_wp2_with fail
  with_reducible refine (whole3_1 _ _ _ _ _ _ _ _ _ (h * dnN ep) (upN mp ep) Nq4.out Na4.out (by omega) (by omega) hup).mono ?_
  rintro e w5 ⟨At, nt, ct, xt, rfl, hnum, hlt, hb⟩
  have bl := BL4.out.below hb
  have br := BR4.out.below hb
  have HB5 := Lib.hid (HB4.out.trans (hb.mono HB4.out.size))
  have Nt5 := Lib.hid hnum
  clear hnum
  clear hb cl0 cl1 cl2 cr0 cr1 fr0 fr1
  have cl0 := bl.cell 0 _ rfl
  have cl1 := bl.cell 1 _ rfl
  have cl2 := bl.cell 2 _ rfl
  have cr0 := br.cell 0 _ rfl
  have cr1 := br.cell 1 _ rfl
  have fr0 := br.froz 0 (by simp)
  have fr1 := br.froz 1 (by simp)
  have BL5 := Lib.hid bl
  have BR5 := Lib.hid br
  clear bl br
  go_wp2_with fail
  with_reducible refine (tick_ok5 _ _ _ _ _ _ T Nt5.out HT.out (by omega)).mono ?_
  rintro e w' ⟨rfl, rfl⟩
  go_wp2_with fail
  with_reducible refine (HNb.out _).mono ?_
  rintro e w' ⟨rfl, rfl⟩
  go_wp2_with fail
  with_reducible refine (word_any _ mb (by omega)).mono ?_
  rintro e w6 ⟨Av, nv, cv, xv, rfl, hnum, hlv, hb⟩
  have bl := BL5.out.below hb
  have br := BR5.out.below hb
  have HB6 := Lib.hid (HB5.out.trans (hb.mono HB5.out.size))
  have Nv6 := Lib.hid hnum
  clear hnum
  clear hb cl0 cl1 cl2 cr0 cr1 fr0 fr1
  have cl0 := bl.cell 0 _ rfl
  have cl1 := bl.cell 1 _ rfl
  have cl2 := bl.cell 2 _ rfl
  have cr0 := br.cell 0 _ rfl
  have cr1 := br.cell 1 _ rfl
  have fr0 := br.froz 0 (by simp)
  have fr1 := br.froz 1 (by simp)
  have BL6 := Lib.hid bl
  have BR6 := Lib.hid br
  clear bl br
  go_wp2_with fail
  with_reducible refine (shift3_any _ _ _ _ eb _ mb Nv6.out (by omega) (by omega) (by omega)).mono ?_
  rintro e w7 ⟨Ac, nc, cc, xc, Ad, nd, cd, xd, rfl, hnum, hnum2, hlc, hld, hb⟩
  have bl := BL6.out.below hb
  have br := BR6.out.below hb
  have HB7 := Lib.hid (HB6.out.trans (hb.mono HB6.out.size))
  have Nc7 := Lib.hid hnum
  have Nd7 := Lib.hid hnum2
  clear hnum hnum2
  clear hb cl0 cl1 cl2 cr0 cr1 fr0 fr1
  have cl0 := bl.cell 0 _ rfl
  have cl1 := bl.cell 1 _ rfl
  have cl2 := bl.cell 2 _ rfl
  have cr0 := br.cell 0 _ rfl
  have cr1 := br.cell 1 _ rfl
  have fr0 := br.froz 0 (by simp)
  have fr1 := br.froz 1 (by simp)
  have BL7 := Lib.hid bl
  have BR7 := Lib.hid br
  clear bl br
  go_wp2_with fail
  with_reducible refine (word_any _ T (by omega)).mono ?_
  rintro e w8 ⟨Ay, ny, cy, xy, rfl, hnum, hly, hb⟩
  have Nc8 := Lib.hid (Nc7.out.below hb)
  have Nd8 := Lib.hid (Nd7.out.below hb)
  have bl := BL7.out.below hb
  have br := BR7.out.below hb
  have HB8 := Lib.hid (HB7.out.trans (hb.mono HB7.out.size))
  have Ny8 := Lib.hid hnum
  clear hnum
  clear hb cl0 cl1 cl2 cr0 cr1 fr0 fr1
  have cl0 := bl.cell 0 _ rfl
  have cl1 := bl.cell 1 _ rfl
  have cl2 := bl.cell 2 _ rfl
  have cr0 := br.cell 0 _ rfl
  have cr1 := br.cell 1 _ rfl
  have fr0 := br.froz 0 (by simp)
  have fr1 := br.froz 1 (by simp)
  have BL8 := Lib.hid bl
  have BR8 := Lib.hid br
  clear bl br
  go_wp2_with fail
  with_reducible refine (times_any _ _ _ _ _ _ _ _ _ T (upN mb eb) Ny8.out Nc8.out (by omega) (by omega)).mono ?_
  rintro e w9 ⟨Ar, nr, cr, xr, rfl, hnum, hlr, hb⟩
  have Nd9 := Lib.hid (Nd8.out.below hb)
  have bl := BL8.out.below hb
  have br := BR8.out.below hb
  have HB9 := Lib.hid (HB8.out.trans (hb.mono HB8.out.size))
  have Nr9 := Lib.hid hnum
  clear hnum
  clear hb cl0 cl1 cl2 cr0 cr1 fr0 fr1
  have cl0 := bl.cell 0 _ rfl
  have cl1 := bl.cell 1 _ rfl
  have cl2 := bl.cell 2 _ rfl
  have cr0 := br.cell 0 _ rfl
  have cr1 := br.cell 1 _ rfl
  have fr0 := br.froz 0 (by simp)
  have fr1 := br.froz 1 (by simp)
  have BL9 := Lib.hid bl
  have BR9 := Lib.hid br
  clear bl br
  go_wp2_with fail
  with_reducible refine (whole3_0 _ _ _ _ _ _ _ _ _ (T * upN mb eb) (dnN eb) Nr9.out Nd9.out (by omega) (by omega) (dnN_pos eb)).mono ?_
  rintro e w10 ⟨Au, nu, cu, xu, rfl, hnum, hlu, hb⟩
  have bl := BL9.out.below hb
  have br := BR9.out.below hb
  have HB10 := Lib.hid (HB9.out.trans (hb.mono HB9.out.size))
  have Nu10 := Lib.hid hnum
  clear hnum
  clear hb cl0 cl1 cl2 cr0 cr1 fr0 fr1
  have cl0 := bl.cell 0 _ rfl
  have cl1 := bl.cell 1 _ rfl
  have cl2 := bl.cell 2 _ rfl
  have cr0 := br.cell 0 _ rfl
  have cr1 := br.cell 1 _ rfl
  have fr0 := br.froz 0 (by simp)
  have fr1 := br.froz 1 (by simp)
  have BL10 := Lib.hid bl
  have BR10 := Lib.hid br
  clear bl br
  go_wp2_with fail
  with_reducible refine (tick_ok5 _ _ _ _ _ _ U Nu10.out HU.out (by omega)).mono ?_
  rintro e w' ⟨rfl, rfl⟩
  go_wp2
  have bz := BR10.out.put2 (.int .i64 (T : Int)) (.int .i64 (U : Int))
  have z0 := bz.cell 0 _ rfl
  have z1 := bz.cell 1 _ rfl
  have hbz := below_put2 HB10.out (b := w.heap.size + 1) (by omega) (.int .i64 (T : Int)) (.int .i64 (U : Int))
  clear bz
  exact bodyPost_ret (v := .tuple #[.agg #[.int .i64 (T : Int), .int .i64 (U : Int)], .int .i64 0]) (by simp [results, Tryd.results42, go_sem, z0, z1]) rfl ⟨rfl, hbz⟩


end Go.Proofs.YtafboimlchjnaaaDoor
