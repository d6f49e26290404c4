/- Contract: Start of a shard. -/
import Derived.Test.YtpjgpiiibgogeaaShY
namespace Go.Proofs.Ytpjgpiiibgogeaa
open Go.RowKit
set_option maxRecDepth 100000
set_option linter.unusedVariables false


set_option maxHeartbeats 1600000 in
theorem start_who (w : World) (p : Value) (who : Int) (op : Nat) (A : Option Addr) (n c : Nat) (x : Int) (hwho : inB who 64 = false) :
    Calls Try.prog 36 #[p, .int .i64 who, .int .u8 (op : Int), .slice A n c, .int .i64 x] w fun e w' => e = .returned (.int .i64 1) ∧ w = w' := by
  have HW := Lib.hid (sWho_any w who)
  rw [hwho] at HW
  clear hwho
  go_enter Try.func36, Try.ntmps36
  go_wp2_with fail
  with_reducible refine HW.out.mono ?_
  rintro e w1 ⟨rfl, hw⟩
  subst hw
  go_wp2
  go_ret
  exact ⟨rfl, rfl⟩

set_option maxHeartbeats 1600000 in
theorem start_op0 (w : World) (p : Value) (who : Int) (op : Nat) (A : Option Addr) (n c : Nat) (x : Int) (hwho : inB who 64 = true) (ho : op < 1) :
    Calls Try.prog 36 #[p, .int .i64 who, .int .u8 (op : Int), .slice A n c, .int .i64 x] w fun e w' => e = .returned (.int .i64 1) ∧ w = w' := by
  have HW := Lib.hid (sWho_any w who)
  rw [hwho] at HW
  have d1 : (op : Int) < 1 := by omega
  clear hwho ho
  go_enter Try.func36, Try.ntmps36
  go_wp2_with fail
  with_reducible refine HW.out.mono ?_
  rintro e w1 ⟨rfl, hw⟩
  subst hw
  go_wp2
  go_ret
  exact ⟨rfl, rfl⟩

set_option maxHeartbeats 1600000 in
theorem start_op5 (w : World) (p : Value) (who : Int) (op : Nat) (A : Option Addr) (n c : Nat) (x : Int) (hwho : inB who 64 = true) (ho : 4 < op) :
    Calls Try.prog 36 #[p, .int .i64 who, .int .u8 (op : Int), .slice A n c, .int .i64 x] w fun e w' => e = .returned (.int .i64 1) ∧ w = w' := by
  have HW := Lib.hid (sWho_any w who)
  rw [hwho] at HW
  have d1 : ¬ (op : Int) < 1 := by omega
  have d2 : (4 : Int) < (op : Int) := by omega
  clear hwho ho
  go_enter Try.func36, Try.ntmps36
  go_wp2_with fail
  with_reducible refine HW.out.mono ?_
  rintro e w1 ⟨rfl, hw⟩
  subst hw
  go_wp2
  go_ret
  exact ⟨rfl, rfl⟩

set_option maxHeartbeats 1600000 in
theorem start_tick_a (w : World) (p : Value) (who : Int) (op : Nat) (A : Option Addr) (n c : Nat) (x : Int) (hwho : inB who 64 = true) (ho : op = 2) (hx : isTick x = false) :
    Calls Try.prog 36 #[p, .int .i64 who, .int .u8 (op : Int), .slice A n c, .int .i64 x] w fun e w' => e = .returned (.int .i64 1) ∧ w = w' := by
  have HW := Lib.hid (sWho_any w who)
  rw [hwho] at HW
  have HF := Lib.hid (tform_any w x)
  rw [hx] at HF
  have d1 : ¬ (op : Int) < 1 := by omega
  have d2 : ¬ (4 : Int) < (op : Int) := by omega
  have q2 : ((op : Int) == 2) = true := by simp [ho]
  clear hwho ho hx
  go_enter Try.func36, Try.ntmps36
  go_wp2_with fail
  with_reducible refine HW.out.mono ?_
  rintro e w1 ⟨rfl, hw⟩
  subst hw
  go_wp2_with fail
  with_reducible refine HF.out.mono ?_
  rintro e w1 ⟨rfl, hw⟩
  subst hw
  go_wp2
  go_ret
  exact ⟨rfl, rfl⟩

set_option maxHeartbeats 1600000 in
theorem start_tick_b (w : World) (p : Value) (who : Int) (op : Nat) (A : Option Addr) (n c : Nat) (x : Int) (hwho : inB who 64 = true) (ho : op = 3) (hx : isTick x = false) :
    Calls Try.prog 36 #[p, .int .i64 who, .int .u8 (op : Int), .slice A n c, .int .i64 x] w fun e w' => e = .returned (.int .i64 1) ∧ w = w' := by
  have HW := Lib.hid (sWho_any w who)
  rw [hwho] at HW
  have HF := Lib.hid (tform_any w x)
  rw [hx] at HF
  have d1 : ¬ (op : Int) < 1 := by omega
  have d2 : ¬ (4 : Int) < (op : Int) := by omega
  have q2 : ((op : Int) == 2) = false := by simp [ho]
  have q3 : ((op : Int) == 3) = true := by simp [ho]
  clear hwho ho hx
  go_enter Try.func36, Try.ntmps36
  go_wp2_with fail
  with_reducible refine HW.out.mono ?_
  rintro e w1 ⟨rfl, hw⟩
  subst hw
  go_wp2_with fail
  with_reducible refine HF.out.mono ?_
  rintro e w1 ⟨rfl, hw⟩
  subst hw
  go_wp2
  go_ret
  exact ⟨rfl, rfl⟩

set_option maxHeartbeats 1600000 in
theorem start_long_a (w : World) (p : Value) (who : Int) (op : Nat) (A : Option Addr) (n c : Nat) (x : Int) (hwho : inB who 64 = true) (ho : op = 2) (hx : isTick x = true) (hn : 256 < n) :
    Calls Try.prog 36 #[p, .int .i64 who, .int .u8 (op : Int), .slice A n c, .int .i64 x] w fun e w' => e = .returned (.int .i64 2) ∧ w = w' := by
  have HW := Lib.hid (sWho_any w who)
  rw [hwho] at HW
  have HF := Lib.hid (tform_any w x)
  rw [hx] at HF
  have d1 : ¬ (op : Int) < 1 := by omega
  have d2 : ¬ (4 : Int) < (op : Int) := by omega
  have q2 : ((op : Int) == 2) = true := by simp [ho]
  have d3 : (256 : Int) < (n : Int) := by omega
  clear hwho ho hx
  go_enter Try.func36, Try.ntmps36
  go_wp2_with fail
  with_reducible refine HW.out.mono ?_
  rintro e w1 ⟨rfl, hw⟩
  subst hw
  go_wp2_with fail
  with_reducible refine HF.out.mono ?_
  rintro e w1 ⟨rfl, hw⟩
  subst hw
  go_wp2
  go_ret
  exact ⟨rfl, rfl⟩

set_option maxHeartbeats 1600000 in
theorem start_nil_a (w : World) (who : Int) (op : Nat) (A : Option Addr) (n c : Nat) (x : Int) (hwho : inB who 64 = true) (ho : op = 2) (hx : isTick x = true) (hn : n ≤ 256) :
    Calls Try.prog 36 #[.pointer none, .int .i64 who, .int .u8 (op : Int), .slice A n c, .int .i64 x] w fun e w' => e = .returned (.int .i64 7) ∧ w = w' := by
  have HW := Lib.hid (sWho_any w who)
  rw [hwho] at HW
  have HF := Lib.hid (tform_any w x)
  rw [hx] at HF
  have d1 : ¬ (op : Int) < 1 := by omega
  have d2 : ¬ (4 : Int) < (op : Int) := by omega
  have q2 : ((op : Int) == 2) = true := by simp [ho]
  have d3 : ¬ (256 : Int) < (n : Int) := by omega
  clear hwho ho hx
  go_enter Try.func36, Try.ntmps36
  go_wp2_with fail
  with_reducible refine HW.out.mono ?_
  rintro e w1 ⟨rfl, hw⟩
  subst hw
  go_wp2_with fail
  with_reducible refine HF.out.mono ?_
  rintro e w1 ⟨rfl, hw⟩
  subst hw
  go_wp2
  go_ret
  exact ⟨rfl, rfl⟩

set_option maxHeartbeats 1600000 in
theorem start_busy_a (w : World) (s : Nat) (who : Int) (op : Nat) (A : Option Addr) (n c : Nat) (x : Int) (hwho : inB who 64 = true) (ho : op = 2) (hx : isTick x = true) (hn : n ≤ 256) (HP : Hid (Calls Try.prog 43 #[.pointer (some ⟨s, 0, none⟩), .int .i64 who] w fun e w1 => e = .returned (.bool true) ∧ w = w1)) :
    Calls Try.prog 36 #[.pointer (some ⟨s, 0, none⟩), .int .i64 who, .int .u8 (op : Int), .slice A n c, .int .i64 x] w fun e w' => e = .returned (.int .i64 9) ∧ w = w' := by
  have HW := Lib.hid (sWho_any w who)
  rw [hwho] at HW
  have HF := Lib.hid (tform_any w x)
  rw [hx] at HF
  have d1 : ¬ (op : Int) < 1 := by omega
  have d2 : ¬ (4 : Int) < (op : Int) := by omega
  have q2 : ((op : Int) == 2) = true := by simp [ho]
  have d3 : ¬ (256 : Int) < (n : Int) := by omega
  clear hwho ho hx
  go_enter Try.func36, Try.ntmps36
  go_wp2_with fail
  with_reducible refine HW.out.mono ?_
  rintro e w1 ⟨rfl, hw⟩
  subst hw
  go_wp2_with fail
  with_reducible refine HF.out.mono ?_
  rintro e w1 ⟨rfl, hw⟩
  subst hw
  go_wp2_with fail
  with_reducible refine HP.out.mono ?_
  rintro e w1 ⟨rfl, hw⟩
  subst hw
  go_wp2
  go_ret
  exact ⟨rfl, rfl⟩

set_option maxHeartbeats 1600000 in
theorem start_long_b (w : World) (p : Value) (who : Int) (op : Nat) (A : Option Addr) (n c : Nat) (x : Int) (hwho : inB who 64 = true) (ho : op = 3) (hx : isTick x = true) (hn : 256 < n) :
    Calls Try.prog 36 #[p, .int .i64 who, .int .u8 (op : Int), .slice A n c, .int .i64 x] w fun e w' => e = .returned (.int .i64 2) ∧ w = w' := by
  have HW := Lib.hid (sWho_any w who)
  rw [hwho] at HW
  have HF := Lib.hid (tform_any w x)
  rw [hx] at HF
  have d1 : ¬ (op : Int) < 1 := by omega
  have d2 : ¬ (4 : Int) < (op : Int) := by omega
  have q2 : ((op : Int) == 2) = false := by simp [ho]
  have q3 : ((op : Int) == 3) = true := by simp [ho]
  have d3 : (256 : Int) < (n : Int) := by omega
  clear hwho ho hx
  go_enter Try.func36, Try.ntmps36
  go_wp2_with fail
  with_reducible refine HW.out.mono ?_
  rintro e w1 ⟨rfl, hw⟩
  subst hw
  go_wp2_with fail
  with_reducible refine HF.out.mono ?_
  rintro e w1 ⟨rfl, hw⟩
  subst hw
  go_wp2
  go_ret
  exact ⟨rfl, rfl⟩

set_option maxHeartbeats 1600000 in
theorem start_nil_b (w : World) (who : Int) (op : Nat) (A : Option Addr) (n c : Nat) (x : Int) (hwho : inB who 64 = true) (ho : op = 3) (hx : isTick x = true) (hn : n ≤ 256) :
    Calls Try.prog 36 #[.pointer none, .int .i64 who, .int .u8 (op : Int), .slice A n c, .int .i64 x] w fun e w' => e = .returned (.int .i64 7) ∧ w = w' := by
  have HW := Lib.hid (sWho_any w who)
  rw [hwho] at HW
  have HF := Lib.hid (tform_any w x)
  rw [hx] at HF
  have d1 : ¬ (op : Int) < 1 := by omega
  have d2 : ¬ (4 : Int) < (op : Int) := by omega
  have q2 : ((op : Int) == 2) = false := by simp [ho]
  have q3 : ((op : Int) == 3) = true := by simp [ho]
  have d3 : ¬ (256 : Int) < (n : Int) := by omega
  clear hwho ho hx
  go_enter Try.func36, Try.ntmps36
  go_wp2_with fail
  with_reducible refine HW.out.mono ?_
  rintro e w1 ⟨rfl, hw⟩
  subst hw
  go_wp2_with fail
  with_reducible refine HF.out.mono ?_
  rintro e w1 ⟨rfl, hw⟩
  subst hw
  go_wp2
  go_ret
  exact ⟨rfl, rfl⟩

set_option maxHeartbeats 1600000 in
theorem start_busy_b (w : World) (s : Nat) (who : Int) (op : Nat) (A : Option Addr) (n c : Nat) (x : Int) (hwho : inB who 64 = true) (ho : op = 3) (hx : isTick x = true) (hn : n ≤ 256) (HP : Hid (Calls Try.prog 43 #[.pointer (some ⟨s, 0, none⟩), .int .i64 who] w fun e w1 => e = .returned (.bool true) ∧ w = w1)) :
    Calls Try.prog 36 #[.pointer (some ⟨s, 0, none⟩), .int .i64 who, .int .u8 (op : Int), .slice A n c, .int .i64 x] w fun e w' => e = .returned (.int .i64 9) ∧ w = w' := by
  have HW := Lib.hid (sWho_any w who)
  rw [hwho] at HW
  have HF := Lib.hid (tform_any w x)
  rw [hx] at HF
  have d1 : ¬ (op : Int) < 1 := by omega
  have d2 : ¬ (4 : Int) < (op : Int) := by omega
  have q2 : ((op : Int) == 2) = false := by simp [ho]
  have q3 : ((op : Int) == 3) = true := by simp [ho]
  have d3 : ¬ (256 : Int) < (n : Int) := by omega
  clear hwho ho hx
  go_enter Try.func36, Try.ntmps36
  go_wp2_with fail
  with_reducible refine HW.out.mono ?_
  rintro e w1 ⟨rfl, hw⟩
  subst hw
  go_wp2_with fail
  with_reducible refine HF.out.mono ?_
  rintro e w1 ⟨rfl, hw⟩
  subst hw
  go_wp2_with fail
  with_reducible refine HP.out.mono ?_
  rintro e w1 ⟨rfl, hw⟩
  subst hw
  go_wp2
  go_ret
  exact ⟨rfl, rfl⟩

set_option maxHeartbeats 1600000 in
theorem start_long_c (w : World) (p : Value) (who : Int) (op : Nat) (A : Option Addr) (n c : Nat) (x : Int) (hwho : inB who 64 = true) (ho : op = 1 ∨ op = 4) (hn : 256 < n) :
    Calls Try.prog 36 #[p, .int .i64 who, .int .u8 (op : Int), .slice A n c, .int .i64 x] w fun e w' => e = .returned (.int .i64 2) ∧ w = w' := by
  have HW := Lib.hid (sWho_any w who)
  rw [hwho] at HW
  have d1 : ¬ (op : Int) < 1 := by omega
  have d2 : ¬ (4 : Int) < (op : Int) := by omega
  have q2 : ((op : Int) == 2) = false := by simp; omega
  have q3 : ((op : Int) == 3) = false := by simp; omega
  have d3 : (256 : Int) < (n : Int) := by omega
  clear hwho ho
  go_enter Try.func36, Try.ntmps36
  go_wp2_with fail
  with_reducible refine HW.out.mono ?_
  rintro e w1 ⟨rfl, hw⟩
  subst hw
  go_wp2
  go_ret
  exact ⟨rfl, rfl⟩

set_option maxHeartbeats 1600000 in
theorem start_nil_c (w : World) (who : Int) (op : Nat) (A : Option Addr) (n c : Nat) (x : Int) (hwho : inB who 64 = true) (ho : op = 1 ∨ op = 4) (hn : n ≤ 256) :
    Calls Try.prog 36 #[.pointer none, .int .i64 who, .int .u8 (op : Int), .slice A n c, .int .i64 x] w fun e w' => e = .returned (.int .i64 7) ∧ w = w' := by
  have HW := Lib.hid (sWho_any w who)
  rw [hwho] at HW
  have d1 : ¬ (op : Int) < 1 := by omega
  have d2 : ¬ (4 : Int) < (op : Int) := by omega
  have q2 : ((op : Int) == 2) = false := by simp; omega
  have q3 : ((op : Int) == 3) = false := by simp; omega
  have d3 : ¬ (256 : Int) < (n : Int) := by omega
  clear hwho ho
  go_enter Try.func36, Try.ntmps36
  go_wp2_with fail
  with_reducible refine HW.out.mono ?_
  rintro e w1 ⟨rfl, hw⟩
  subst hw
  go_wp2
  go_ret
  exact ⟨rfl, rfl⟩

set_option maxHeartbeats 1600000 in
theorem start_busy_c (w : World) (s : Nat) (who : Int) (op : Nat) (A : Option Addr) (n c : Nat) (x : Int) (hwho : inB who 64 = true) (ho : op = 1 ∨ op = 4) (hn : n ≤ 256) (HP : Hid (Calls Try.prog 43 #[.pointer (some ⟨s, 0, none⟩), .int .i64 who] w fun e w1 => e = .returned (.bool true) ∧ w = w1)) :
    Calls Try.prog 36 #[.pointer (some ⟨s, 0, none⟩), .int .i64 who, .int .u8 (op : Int), .slice A n c, .int .i64 x] w fun e w' => e = .returned (.int .i64 9) ∧ w = w' := by
  have HW := Lib.hid (sWho_any w who)
  rw [hwho] at HW
  have d1 : ¬ (op : Int) < 1 := by omega
  have d2 : ¬ (4 : Int) < (op : Int) := by omega
  have q2 : ((op : Int) == 2) = false := by simp; omega
  have q3 : ((op : Int) == 3) = false := by simp; omega
  have d3 : ¬ (256 : Int) < (n : Int) := by omega
  clear hwho ho
  go_enter Try.func36, Try.ntmps36
  go_wp2_with fail
  with_reducible refine HW.out.mono ?_
  rintro e w1 ⟨rfl, hw⟩
  subst hw
  go_wp2_with fail
  with_reducible refine HP.out.mono ?_
  rintro e w1 ⟨rfl, hw⟩
  subst hw
  go_wp2
  go_ret
  exact ⟨rfl, rfl⟩

theorem NxV.read_form {w : World} {s i : Nat} {S : List Nat} {op : Nat} {ks : List Nat} {v : Int} {f : Value} (h : NxV w s i S (.read op ks v) f) : ∃ caps, f = .func (.func 86) #[] caps := by
  cases h with
  | read => exact ⟨_, rfl⟩
theorem read_any2 (w : World) (s i : Nat) (S : List Nat) (op : Nat) (ks : List Nat) (v : Int) (kA : Option Addr) (kn kc : Nat) (hS : ∀ x ∈ S, x < w.heap.size) (ok : OkC op ks v) (hk : Arg w w.heap.size kA kn kc ks) (ak : Apt S kA kn) (ck : kn ≤ 256) :
    Calls Try.prog 66 #[.pointer (some ⟨s, 0, none⟩), .int .i64 (i : Int), .agg #[.int .u8 (op : Int), .slice kA kn kc, .int .i64 v]] w
      fun e w' => ∃ caps, e = .returned (.func (.func 86) #[] caps) ∧ NxV w' s i S (.read op ks v) (.func (.func 86) #[] caps) ∧ Below w.heap.size w w' := by
  refine (read_any w s i S op ks v kA kn kc hS ok hk ak ck).mono ?_
  rintro e w' ⟨f, he, hn, hb⟩
  obtain ⟨caps, rfl⟩ := hn.read_form
  exact ⟨caps, he, hn, hb⟩
theorem OwnB.apt {w : World} {B n c : Nat} {A : Option Addr} {zs : List Nat} {S : List Nat} (h : OwnB w B A n c zs) (hS : ∀ x ∈ S, x < B) : Apt S A n := by
  intro hn a ha hm
  rcases h.1.2 with ⟨h1, h2⟩ | ⟨g, cap, cur, h1, h2, h3⟩
  · injection h1 with h1; rw [h1] at ha; cases ha
  · injection h1 with h1; rw [h1] at ha; cases ha
    have := hS _ hm
    simp only at this
    omega
def StartEnd (w : World) (s b bw : Nat) (X : List Nat) (k v : Nat) (l : List Ent) (nx : Nat → Nx) (e : Ending) (w' : World) : Prop :=
  e = .returned (.int .i64 0) ∧ ShS w' s b bw X k v l nx ∧ Off [s, b, bw] w w'

set_option maxHeartbeats 1600000 in
theorem start_ok_a (w : World) (s : Nat) (who : Int) (op : Nat) (A : Option Addr) (n c : Nat) (x : Int) (b bw : Nat) (X : List Nat) (kk v : Nat) (l : List Ent) (nx : Nat → Nx) (i : Nat) (hi : i < 64) (hwi : who = (i : Int)) (ks : List Nat) (h : ShS w s b bw X kk v l nx) (hnx : nx i = .none) (hk : Arg w w.heap.size A n c ks) (ho : op = 2) (hx : isTick x = true) (hn : n ≤ 256) :
    Calls Try.prog 36 #[.pointer (some ⟨s, 0, none⟩), .int .i64 who, .int .u8 (op : Int), .slice A n c, .int .i64 x] w (StartEnd w s b bw X kk v l (updF nx i (.read op ks x))) := by
  have hwho : inB who 64 = true := inB_iff.mpr (by omega)
  obtain ⟨A', n', c', es, fv, ring, hes, hR⟩ := h
  have hxv := hR.nxv i hi
  rw [hnx] at hxv
  have hcn := hR.cn hi
  have hfi : fv i = .nilFunc := by
    generalize fv i = f at hxv
    cases hxv; rfl
  rw [hfi] at hcn
  have hlt := hR.lts
  have ls := hlt.1
  have hfr := hR.fr (i := 2 + i) (by omega)
  have ok : OkC op ks x := ⟨by omega, by omega, fun h2 => isTick_iff.mp hx, by rw [hk.len]; exact hn⟩
  have HW := Lib.hid (sWho_any w who)
  rw [hwho] at HW
  have HF := Lib.hid (tform_any w x)
  rw [hx] at HF
  have d1 : ¬ (op : Int) < 1 := by omega
  have d2 : ¬ (4 : Int) < (op : Int) := by omega
  have q2 : ((op : Int) == 2) = true := by simp [ho]
  subst hwi
  have HP := Lib.hid (sPend_none w s i hi hcn)
  have HC := Lib.hid (clone_any w w.heap.size A n c ks hk (Nat.le_refl _) (by omega))
  have d3 : ¬ (256 : Int) < (n : Int) := by omega
  have d4 : (i : Int) < 64 := by omega
  have d5 : (0 : Int) ≤ (i : Int) := by omega
  have HRR := Lib.hid hR
  have ARGK := Lib.hid hk
  have HOK := Lib.hid ok
  have HES := Lib.hid (And.intro hes hfi)
  have HKL := Lib.hid hk.len
  clear hwho ho hR hxv hlt ok hes hfi hk hx
  go_enter Try.func36, Try.ntmps36
  go_wp2_with fail
  with_reducible refine HW.out.mono ?_
  rintro e w1 ⟨rfl, hw⟩
  subst hw
  go_wp2_with fail
  with_reducible refine HF.out.mono ?_
  rintro e w1 ⟨rfl, hw⟩
  subst hw
  go_wp2_with fail
  with_reducible refine HP.out.mono ?_
  rintro e w1 ⟨rfl, hw⟩
  subst hw
  have hcd := HC.out
  have HCD : Hid (Calls Try.prog 67 #[.slice A n c] w.drew fun e w' => ∃ A' c', e = .returned (.slice A' n c') ∧ OwnB w' w.heap.size A' n c' ks ∧ Below w.heap.size w w') := Lib.hid (by
    have hx := clone_any w.drew w.heap.size A n c ks (ARGK.out.drewN 1) (Nat.le_refl _) (by omega)
    exact hx.mono fun e w' ⟨A', c', he, ho, hb⟩ => ⟨A', c', he, ho, (show Below w.heap.size w w.drew from (Below.refl _ _).drew).trans hb⟩)
  clear hcd HC
  have HS : Hid (∀ y ∈ (s :: b :: bw :: X), y < w.heap.size) := Lib.hid (fun y hy => HRR.out.all y hy)
  go_wp2_with fail
  go_region_held3 (fun w' => True) (trivial)
    (first
    | ((with_reducible refine (HCD.out).mono ?_); rintro e w2 ⟨Ac, cc, rfl, ho2, hb2⟩; have KX := Lib.hid (And.intro ho2 hb2); clear ho2 hb2)
    | ((with_reducible refine (read_any2 _ s i (s :: b :: bw :: X) op ks x Ac n cc (fun y hy => Nat.lt_of_lt_of_le (HS.out y hy) KX.out.2.size) HOK.out KX.out.1.arg (KX.out.1.apt HS.out) hn).mono ?_); rintro e w3 ⟨caps, rfl, hnx3, hb3⟩; have hsc := (hb3.cell (p := ⟨s, 2 + i, none⟩) (Nat.lt_of_lt_of_le ls KX.out.2.size)).trans ((KX.out.2.cell (p := ⟨s, 2 + i, none⟩) ls).trans hcn); have hsf := (hb3.frozen (p := ⟨s, 2 + i, none⟩) (Nat.lt_of_lt_of_le ls KX.out.2.size)).trans ((KX.out.2.frozen (p := ⟨s, 2 + i, none⟩) ls).trans hfr); have hsl := Nat.lt_of_lt_of_le ls (Nat.le_trans KX.out.2.size hb3.size); have KY := Lib.hid (And.intro hnx3 hb3); clear hnx3 hb3))
  go_wp2
  go_ret
  obtain ⟨hnx3, hb3⟩ := KY.out
  have hbw : Below w.heap.size w w3 := KX.out.2.trans (hb3.mono KX.out.2.size)
  have hR3 := HRR.out.below hbw
  have hof0 := (Off.refl [s, b, bw] w3).setCell (p := ⟨s, 2 + i, none⟩) (by simp) (.func (.func 86) #[] caps)
  have hofs := (Off.refl [s] w3).setCell (p := ⟨s, 2 + i, none⟩) (by simp) (.func (.func 86) #[] caps)
  have hbk := hR3.blk.set (2 + i) (.func (.func 86) #[] caps) (by omega)
  rw [shF_set] at hbk
  refine ⟨rfl, ⟨A', n', c', es, _, ring, HES.out.1, ⟨hbk, hR3.m.off hofs (by simpa using Ne.symm hR3.ne) (by simpa using Ne.symm hR3.ne'), (hR3.ver.off (Nat.le_refl _) hof0.upX).more hof0.size, hR3.wf, fun j hj => ?_, hR3.vk, hR3.v1, hR3.ne, hR3.ne', fun x hx => Nat.lt_of_lt_of_le (hR3.hX x hx) hof0.size⟩⟩, (Off.of_below (S := [s, b, bw]) hbw).trans hof0⟩
  by_cases hji : j = i
  · subst hji
    rw [updF_same, updF_same]
    exact hnx3.off hof0.upX
  · rw [updF_other _ _ _ _ hji, updF_other _ _ _ _ hji]
    exact (hR3.nxv j hj).off hof0.upX

set_option maxHeartbeats 1600000 in
theorem start_ok_b (w : World) (s : Nat) (who : Int) (op : Nat) (A : Option Addr) (n c : Nat) (x : Int) (b bw : Nat) (X : List Nat) (kk v : Nat) (l : List Ent) (nx : Nat → Nx) (i : Nat) (hi : i < 64) (hwi : who = (i : Int)) (ks : List Nat) (h : ShS w s b bw X kk v l nx) (hnx : nx i = .none) (hk : Arg w w.heap.size A n c ks) (ho : op = 3) (hx : isTick x = true) (hn : n ≤ 256) :
    Calls Try.prog 36 #[.pointer (some ⟨s, 0, none⟩), .int .i64 who, .int .u8 (op : Int), .slice A n c, .int .i64 x] w (StartEnd w s b bw X kk v l (updF nx i (.read op ks x))) := by
  have hwho : inB who 64 = true := inB_iff.mpr (by omega)
  obtain ⟨A', n', c', es, fv, ring, hes, hR⟩ := h
  have hxv := hR.nxv i hi
  rw [hnx] at hxv
  have hcn := hR.cn hi
  have hfi : fv i = .nilFunc := by
    generalize fv i = f at hxv
    cases hxv; rfl
  rw [hfi] at hcn
  have hlt := hR.lts
  have ls := hlt.1
  have hfr := hR.fr (i := 2 + i) (by omega)
  have ok : OkC op ks x := ⟨by omega, by omega, fun h2 => isTick_iff.mp hx, by rw [hk.len]; exact hn⟩
  have HW := Lib.hid (sWho_any w who)
  rw [hwho] at HW
  have HF := Lib.hid (tform_any w x)
  rw [hx] at HF
  have d1 : ¬ (op : Int) < 1 := by omega
  have d2 : ¬ (4 : Int) < (op : Int) := by omega
  have q2 : ((op : Int) == 2) = false := by simp [ho]
  have q3 : ((op : Int) == 3) = true := by simp [ho]
  subst hwi
  have HP := Lib.hid (sPend_none w s i hi hcn)
  have HC := Lib.hid (clone_any w w.heap.size A n c ks hk (Nat.le_refl _) (by omega))
  have d3 : ¬ (256 : Int) < (n : Int) := by omega
  have d4 : (i : Int) < 64 := by omega
  have d5 : (0 : Int) ≤ (i : Int) := by omega
  have HRR := Lib.hid hR
  have ARGK := Lib.hid hk
  have HOK := Lib.hid ok
  have HES := Lib.hid (And.intro hes hfi)
  have HKL := Lib.hid hk.len
  clear hwho ho hR hxv hlt ok hes hfi hk hx
  go_enter Try.func36, Try.ntmps36
  go_wp2_with fail
  with_reducible refine HW.out.mono ?_
  rintro e w1 ⟨rfl, hw⟩
  subst hw
  go_wp2_with fail
  with_reducible refine HF.out.mono ?_
  rintro e w1 ⟨rfl, hw⟩
  subst hw
  go_wp2_with fail
  with_reducible refine HP.out.mono ?_
  rintro e w1 ⟨rfl, hw⟩
  subst hw
  have hcd := HC.out
  have HCD : Hid (Calls Try.prog 67 #[.slice A n c] w.drew fun e w' => ∃ A' c', e = .returned (.slice A' n c') ∧ OwnB w' w.heap.size A' n c' ks ∧ Below w.heap.size w w') := Lib.hid (by
    have hx := clone_any w.drew w.heap.size A n c ks (ARGK.out.drewN 1) (Nat.le_refl _) (by omega)
    exact hx.mono fun e w' ⟨A', c', he, ho, hb⟩ => ⟨A', c', he, ho, (show Below w.heap.size w w.drew from (Below.refl _ _).drew).trans hb⟩)
  clear hcd HC
  have HS : Hid (∀ y ∈ (s :: b :: bw :: X), y < w.heap.size) := Lib.hid (fun y hy => HRR.out.all y hy)
  go_wp2_with fail
  go_region_held3 (fun w' => True) (trivial)
    (first
    | ((with_reducible refine (HCD.out).mono ?_); rintro e w2 ⟨Ac, cc, rfl, ho2, hb2⟩; have KX := Lib.hid (And.intro ho2 hb2); clear ho2 hb2)
    | ((with_reducible refine (read_any2 _ s i (s :: b :: bw :: X) op ks x Ac n cc (fun y hy => Nat.lt_of_lt_of_le (HS.out y hy) KX.out.2.size) HOK.out KX.out.1.arg (KX.out.1.apt HS.out) hn).mono ?_); rintro e w3 ⟨caps, rfl, hnx3, hb3⟩; have hsc := (hb3.cell (p := ⟨s, 2 + i, none⟩) (Nat.lt_of_lt_of_le ls KX.out.2.size)).trans ((KX.out.2.cell (p := ⟨s, 2 + i, none⟩) ls).trans hcn); have hsf := (hb3.frozen (p := ⟨s, 2 + i, none⟩) (Nat.lt_of_lt_of_le ls KX.out.2.size)).trans ((KX.out.2.frozen (p := ⟨s, 2 + i, none⟩) ls).trans hfr); have hsl := Nat.lt_of_lt_of_le ls (Nat.le_trans KX.out.2.size hb3.size); have KY := Lib.hid (And.intro hnx3 hb3); clear hnx3 hb3))
  go_wp2
  go_ret
  obtain ⟨hnx3, hb3⟩ := KY.out
  have hbw : Below w.heap.size w w3 := KX.out.2.trans (hb3.mono KX.out.2.size)
  have hR3 := HRR.out.below hbw
  have hof0 := (Off.refl [s, b, bw] w3).setCell (p := ⟨s, 2 + i, none⟩) (by simp) (.func (.func 86) #[] caps)
  have hofs := (Off.refl [s] w3).setCell (p := ⟨s, 2 + i, none⟩) (by simp) (.func (.func 86) #[] caps)
  have hbk := hR3.blk.set (2 + i) (.func (.func 86) #[] caps) (by omega)
  rw [shF_set] at hbk
  refine ⟨rfl, ⟨A', n', c', es, _, ring, HES.out.1, ⟨hbk, hR3.m.off hofs (by simpa using Ne.symm hR3.ne) (by simpa using Ne.symm hR3.ne'), (hR3.ver.off (Nat.le_refl _) hof0.upX).more hof0.size, hR3.wf, fun j hj => ?_, hR3.vk, hR3.v1, hR3.ne, hR3.ne', fun x hx => Nat.lt_of_lt_of_le (hR3.hX x hx) hof0.size⟩⟩, (Off.of_below (S := [s, b, bw]) hbw).trans hof0⟩
  by_cases hji : j = i
  · subst hji
    rw [updF_same, updF_same]
    exact hnx3.off hof0.upX
  · rw [updF_other _ _ _ _ hji, updF_other _ _ _ _ hji]
    exact (hR3.nxv j hj).off hof0.upX

set_option maxHeartbeats 1600000 in
theorem start_ok_c (w : World) (s : Nat) (who : Int) (op : Nat) (A : Option Addr) (n c : Nat) (x : Int) (b bw : Nat) (X : List Nat) (kk v : Nat) (l : List Ent) (nx : Nat → Nx) (i : Nat) (hi : i < 64) (hwi : who = (i : Int)) (ks : List Nat) (h : ShS w s b bw X kk v l nx) (hnx : nx i = .none) (hk : Arg w w.heap.size A n c ks) (ho : op = 1 ∨ op = 4) (hn : n ≤ 256) :
    Calls Try.prog 36 #[.pointer (some ⟨s, 0, none⟩), .int .i64 who, .int .u8 (op : Int), .slice A n c, .int .i64 x] w (StartEnd w s b bw X kk v l (updF nx i (.read op ks x))) := by
  have hwho : inB who 64 = true := inB_iff.mpr (by omega)
  obtain ⟨A', n', c', es, fv, ring, hes, hR⟩ := h
  have hxv := hR.nxv i hi
  rw [hnx] at hxv
  have hcn := hR.cn hi
  have hfi : fv i = .nilFunc := by
    generalize fv i = f at hxv
    cases hxv; rfl
  rw [hfi] at hcn
  have hlt := hR.lts
  have ls := hlt.1
  have hfr := hR.fr (i := 2 + i) (by omega)
  have ok : OkC op ks x := ⟨by omega, by omega, fun h2 => by omega, by rw [hk.len]; exact hn⟩
  have HW := Lib.hid (sWho_any w who)
  rw [hwho] at HW
  have d1 : ¬ (op : Int) < 1 := by omega
  have d2 : ¬ (4 : Int) < (op : Int) := by omega
  have q2 : ((op : Int) == 2) = false := by simp; omega
  have q3 : ((op : Int) == 3) = false := by simp; omega
  subst hwi
  have HP := Lib.hid (sPend_none w s i hi hcn)
  have HC := Lib.hid (clone_any w w.heap.size A n c ks hk (Nat.le_refl _) (by omega))
  have d3 : ¬ (256 : Int) < (n : Int) := by omega
  have d4 : (i : Int) < 64 := by omega
  have d5 : (0 : Int) ≤ (i : Int) := by omega
  have HRR := Lib.hid hR
  have ARGK := Lib.hid hk
  have HOK := Lib.hid ok
  have HES := Lib.hid (And.intro hes hfi)
  have HKL := Lib.hid hk.len
  clear hwho ho hR hxv hlt ok hes hfi hk
  go_enter Try.func36, Try.ntmps36
  go_wp2_with fail
  with_reducible refine HW.out.mono ?_
  rintro e w1 ⟨rfl, hw⟩
  subst hw
  go_wp2_with fail
  with_reducible refine HP.out.mono ?_
  rintro e w1 ⟨rfl, hw⟩
  subst hw
  have hcd := HC.out
  have HCD : Hid (Calls Try.prog 67 #[.slice A n c] w.drew fun e w' => ∃ A' c', e = .returned (.slice A' n c') ∧ OwnB w' w.heap.size A' n c' ks ∧ Below w.heap.size w w') := Lib.hid (by
    have hx := clone_any w.drew w.heap.size A n c ks (ARGK.out.drewN 1) (Nat.le_refl _) (by omega)
    exact hx.mono fun e w' ⟨A', c', he, ho, hb⟩ => ⟨A', c', he, ho, (show Below w.heap.size w w.drew from (Below.refl _ _).drew).trans hb⟩)
  clear hcd HC
  have HS : Hid (∀ y ∈ (s :: b :: bw :: X), y < w.heap.size) := Lib.hid (fun y hy => HRR.out.all y hy)
  go_wp2_with fail
  go_region_held3 (fun w' => True) (trivial)
    (first
    | ((with_reducible refine (HCD.out).mono ?_); rintro e w2 ⟨Ac, cc, rfl, ho2, hb2⟩; have KX := Lib.hid (And.intro ho2 hb2); clear ho2 hb2)
    | ((with_reducible refine (read_any2 _ s i (s :: b :: bw :: X) op ks x Ac n cc (fun y hy => Nat.lt_of_lt_of_le (HS.out y hy) KX.out.2.size) HOK.out KX.out.1.arg (KX.out.1.apt HS.out) hn).mono ?_); rintro e w3 ⟨caps, rfl, hnx3, hb3⟩; have hsc := (hb3.cell (p := ⟨s, 2 + i, none⟩) (Nat.lt_of_lt_of_le ls KX.out.2.size)).trans ((KX.out.2.cell (p := ⟨s, 2 + i, none⟩) ls).trans hcn); have hsf := (hb3.frozen (p := ⟨s, 2 + i, none⟩) (Nat.lt_of_lt_of_le ls KX.out.2.size)).trans ((KX.out.2.frozen (p := ⟨s, 2 + i, none⟩) ls).trans hfr); have hsl := Nat.lt_of_lt_of_le ls (Nat.le_trans KX.out.2.size hb3.size); have KY := Lib.hid (And.intro hnx3 hb3); clear hnx3 hb3))
  go_wp2
  go_ret
  obtain ⟨hnx3, hb3⟩ := KY.out
  have hbw : Below w.heap.size w w3 := KX.out.2.trans (hb3.mono KX.out.2.size)
  have hR3 := HRR.out.below hbw
  have hof0 := (Off.refl [s, b, bw] w3).setCell (p := ⟨s, 2 + i, none⟩) (by simp) (.func (.func 86) #[] caps)
  have hofs := (Off.refl [s] w3).setCell (p := ⟨s, 2 + i, none⟩) (by simp) (.func (.func 86) #[] caps)
  have hbk := hR3.blk.set (2 + i) (.func (.func 86) #[] caps) (by omega)
  rw [shF_set] at hbk
  refine ⟨rfl, ⟨A', n', c', es, _, ring, HES.out.1, ⟨hbk, hR3.m.off hofs (by simpa using Ne.symm hR3.ne) (by simpa using Ne.symm hR3.ne'), (hR3.ver.off (Nat.le_refl _) hof0.upX).more hof0.size, hR3.wf, fun j hj => ?_, hR3.vk, hR3.v1, hR3.ne, hR3.ne', fun x hx => Nat.lt_of_lt_of_le (hR3.hX x hx) hof0.size⟩⟩, (Off.of_below (S := [s, b, bw]) hbw).trans hof0⟩
  by_cases hji : j = i
  · subst hji
    rw [updF_same, updF_same]
    exact hnx3.off hof0.upX
  · rw [updF_other _ _ _ _ hji, updF_other _ _ _ _ hji]
    exact (hR3.nxv j hj).off hof0.upX

end Go.Proofs.Ytpjgpiiibgogeaa
