/- Contract: Left of the document's numbers. -/
import Derived.Test.YtafboimlchjnaaaDoorMinus
namespace Go.Proofs.YtafboimlchjnaaaDoor
open Go.RowKit
set_option maxRecDepth 100000

/-- What Left has done before its round i: q noughts, then i digits. -/
def LeftRel (xs cs : List Nat) (q r i cy : Nat) : Prop :=
  cs.length = q + i ∧ (∀ d ∈ cs, d < 4294967296) ∧ cy < 4294967296 ∧ Mth.val cs + 4294967296 ^ (q + i) * cy = 4294967296 ^ q * (2 ^ r * Mth.val (xs.take i))

theorem LeftRel.step {xs cs : List Nat} {q r i cy : Nat} (h : LeftRel xs cs q r i cy) (hx : ∀ d ∈ xs, d < 4294967296) (hr : r ≤ 31) :
    LeftRel xs (cs ++ [(xs.getD i 0 * 2 ^ r + cy) % 4294967296]) q r (i + 1) ((xs.getD i 0 * 2 ^ r + cy) / 4294967296) := by
  obtain ⟨h1, h2, h3, h4⟩ := h
  have gx := getD_lt xs hx i
  have hp : 2 ^ r ≤ 2 ^ 31 := Nat.pow_le_pow_right (by omega) hr
  have hm : xs.getD i 0 * 2 ^ r ≤ 4294967295 * 2 ^ 31 := Nat.mul_le_mul (by omega) hp
  refine ⟨by simp [h1]; omega, fun d hd => ?_, by omega, ?_⟩
  · rcases List.mem_append.1 hd with hd | hd
    · exact h2 d hd
    · simp at hd; omega
  · rw [Mth.val_snoc, take_val_succ, h1, ← Nat.add_assoc, Nat.pow_succ]
    generalize xs.getD i 0 = x at *
    have e : 4294967296 ^ (q + i) * ((x * 2 ^ r + cy) % 4294967296) + 4294967296 ^ (q + i) * 4294967296 * ((x * 2 ^ r + cy) / 4294967296) = 4294967296 ^ (q + i) * (x * 2 ^ r + cy) := by
      rw [Nat.mul_assoc, ← Nat.mul_add, Nat.mod_add_div]
    rw [Nat.mul_add, Nat.mul_add, ← h4] at *
    have e2 : 4294967296 ^ q * (2 ^ r * (4294967296 ^ i * x)) = 4294967296 ^ (q + i) * (x * 2 ^ r) := by
      rw [Nat.pow_add, Nat.mul_assoc, Nat.mul_comm x, ← Nat.mul_assoc (2 ^ r), Nat.mul_comm (2 ^ r), Nat.mul_assoc]
    omega

theorem LeftRel.done {xs cs : List Nat} {q r i cy N : Nat} (h : LeftRel xs cs q r i cy) (hx : Mth.Lo xs N) (hi : xs.length ≤ i) : Mth.Lo (cs ++ [cy]) (N * 2 ^ (32 * q + r)) := by
  obtain ⟨h1, h2, h3, h4⟩ := h
  rw [List.take_of_length_le hi, hx.2] at h4
  refine ⟨fun d hd => ?_, ?_⟩
  · rcases List.mem_append.1 hd with hd | hd
    · exact h2 d hd
    · simp at hd; omega
  · rw [Mth.val_snoc, h1, h4, Nat.pow_add, show 4294967296 ^ q = 2 ^ (32 * q) by rw [Nat.pow_mul], ← Nat.mul_assoc, Nat.mul_comm]

theorem replicate_val (q : Nat) : Mth.val (List.replicate q 0) = 0 := by
  induction q with
  | zero => rfl
  | succ q ih => simp [List.replicate_succ, Mth.val, ih]

theorem u64_in {n : Int} (h0 : 0 ≤ n) (h1 : n ≤ 18446744073709551615) : IntKind.u64.wrap n = n := by
  rw [IntKind.wrap_u64]; omega

def LeftInv (w : World) (xs : List Nat) (n q r : Nat) (cv cyv kv : Value) (wr : World) : Prop :=
  ∃ (i cy c : Nat) (A : Option Addr) (cs : List Nat), kv = .int .i64 (i : Int) ∧ cyv = .int .u64 (cy : Int) ∧ cv = .slice A (q + i) c ∧ Own wr w.heap.size A (q + i) c cs ∧ LeftRel xs cs q r i cy ∧ Below w.heap.size w wr ∧ i ≤ n

set_option maxHeartbeats 1600000 in
theorem left_any (w : World) (A : Option Addr) (n c k : Nat) (xs : List Nat) (N : Nat) (hA : Num w A n c xs N) (hn : n ≤ 1048576) (hk : k ≤ 16777216) :
    Calls Tryd.prog 85 #[.slice A n c, .int .i64 (k : Int)] w (NumEnd w (N * 2 ^ k) (k / 32 + n + 1)) := by
  obtain ⟨i0, hi, hz0, hz1, hz2⟩ := info_parts u64_info
  have hxl := hA.own.len
  have hx := hA.dig.1.1
  have hq1 : 32 * (k / 32) ≤ k := by omega
  have hq2 : k < 32 * (k / 32) + 32 := by omega
  have hrm : k % 32 ≤ 31 := by omega
  have hkk : 32 * (k / 32) + k % 32 = k := by omega
  have hqq : (k : Int) / 32 = ((k / 32 : Nat) : Int) := by omega
  have HK := Lib.hid hkk
  have HQ := Lib.hid hqq
  clear hkk hqq
  generalize hq : k / 32 = q at *
  have HQQ := Lib.hid hq
  clear hq
  go_enter Tryd.func85, Tryd.ntmps85
  go_wp2_with (refine wpList_make_full _ rfl (.tmp 10) (.tmp 10) _ rfl w.heap.size 22 i0 (.int .u64 0) 1 Tryd.underlying87 hi hz0 hz1 .i64 .i64 _ _ q rfl rfl (by omega) (by omega) (by rw [hz2]; omega) (by unfold maxLen; omega) (Nat.le_refl _) ?_)
  intro w1 hown1 hgrow1
  have ho := Own.made hown1
  have hb1 : Below w.heap.size w w1 := (Below.refl _ _).grown hgrow1 (Nat.le_refl _) (by simp)
  have hrel0 : LeftRel xs (List.replicate q 0) q (k % 32) 0 0 := ⟨by simp, fun d hd => by rw [(List.mem_replicate.1 hd).2]; omega, by omega, by simp [Mth.val, replicate_val]⟩
  have HO := Lib.hid ho
  have HB1 := Lib.hid hb1
  have HREL0 := Lib.hid hrel0
  clear ho hb1 hrel0 hown1 hgrow1
  go_wp2
  go_loopw [5, 6, 14] (fun cv cyv kv wr => LeftInv w xs n q (k % 32) cv cyv kv wr) (fun _ _ kv _ => n - (intOf kv).toNat)
  case atStart => exact ⟨0, 0, q, _, _, rfl, rfl, rfl, HO.out, HREL0.out, HB1.out, by omega⟩
  case round =>
    obtain ⟨i, cy, cc, C, cs, rfl, rfl, rfl, hown, hrel', hbel, hin⟩ := hrel
    have hcy := hrel'.2.2.1
    have hcl := hown.len
    have HA := Lib.hid (hA.below hbel)
    have HOWN := Lib.hid hown
    have HREL := Lib.hid hrel'
    have HBEL := Lib.hid hbel
    have hsz := hbel.size
    clear HO HB1 HREL0
    rcases Nat.lt_or_ge i n with h1 | h1
    · have hst := hrel'.step hx hrm
      have hgx := getD_lt xs hx i
      have HXL := Lib.hid hxl
      have HCL := Lib.hid hcl
      clear hrel' hown hbel hxl hcl
      obtain ⟨g1, rfl, _, _, hc1⟩ := HA.out.own.at_ (k := i) h1
      generalize xs.getD i 0 = x at hc1 hst hgx
      have hmul : x * 2 ^ (k % 32) ≤ 4294967295 * 2147483648 := Nat.mul_le_mul (by omega) (show 2 ^ (k % 32) ≤ 2 ^ 31 from Nat.pow_le_pow_right (by omega) hrm)
      have hsh : IntKind.u64.wrap ((x : Int) * 2 ^ (k % 32)) = ((x * 2 ^ (k % 32) : Nat) : Int) := by
        rw [show (x : Int) * 2 ^ (k % 32) = ((x * 2 ^ (k % 32) : Nat) : Int) by simp]
        exact u64_in (by omega) (by omega)
      generalize x * 2 ^ (k % 32) = s at hst hsh hmul
      have HST := Lib.hid hst
      clear hst
      go_wp2_with (at_builtin; refine wpList_append_own _ rfl _ _ 87 rfl w.heap.size 22 i0 (.int .u64 0) 1 8 Tryd.underlying87 hi hz0 hz1 hz2 rfl (by decide) _ _ _ rfl (World.ownsRow.alloc HOWN.out _) ⟨wr.heap.size, 0, none⟩ 1 1 [_] rfl rfl (cell_one_new _ _ _) ?c2 ?c3 ?c4 ?c5 ?_)
      case c2 => intro u hu; simp at hu; subst hu; rfl
      case c3 => unfold maxLen; omega
      case c4 => omega
      case c5 => simp; omega
      intro v1 w2 hown1 hgrow1 _
      have hown2 := Own.snoc (d := (s + cy) % 4294967296) (by simpa using hown1)
      have hr : ∀ j, (Value.slice C (q + i) cc).ownBlock = some j → w.heap.size ≤ j := fun j hj => (World.ownsRow.lt HOWN.out j hj).1
      have hbel1 := (HBEL.out.alloc hsz _).grown hgrow1 (by simp; omega) hr
      obtain ⟨A1, c1, hv1, hown3⟩ := hown2
      have HO3 := Lib.hid hown3
      have HB2 := Lib.hid hbel1
      subst hv1
      clear hown1 hgrow1 hr hbel1 hown3
      go_wp2
      go_roundw
      case rel => exact ⟨i + 1, (s + cy) / 4294967296, c1, A1, _, by go_num, by go_num, rfl, HO3.out, HST.out, HB2.out, by omega⟩
      case measure => simp [intOf]; omega
    · have hlo := hrel'.done hA.dig.1 (by omega)
      rw [HK.out] at hlo
      have HLO := Lib.hid hlo
      have HCL := Lib.hid hcl
      clear hlo hrel' hown hbel hcl
      go_wp2_with (at_builtin; refine wpList_append_own _ rfl _ _ 87 rfl w.heap.size 22 i0 (.int .u64 0) 1 8 Tryd.underlying87 hi hz0 hz1 hz2 rfl (by decide) _ _ _ rfl (World.ownsRow.alloc HOWN.out _) ⟨wr.heap.size, 0, none⟩ 1 1 [_] rfl rfl (cell_one_new _ _ _) ?d2 ?d3 ?d4 ?d5 ?_)
      case d2 => intro u hu; simp at hu; subst hu; rfl
      case d3 => unfold maxLen; omega
      case d4 => omega
      case d5 => simp; omega
      intro v1 w2 hown1 hgrow1 _
      have hown2 := Own.snoc (d := cy) hown1
      have hr : ∀ j, (Value.slice C (q + i) cc).ownBlock = some j → w.heap.size ≤ j := fun j hj => (World.ownsRow.lt HOWN.out j hj).1
      have hbel1 := (HBEL.out.alloc hsz _).grown hgrow1 (by simp; omega) hr
      obtain ⟨A1, c1, hv1, hown3⟩ := hown2
      have HO3 := Lib.hid hown3
      have HB2 := Lib.hid hbel1
      subst hv1
      clear hown1 hgrow1 hr hbel1 hown3
      go_wp2_with fail
      refine (norm_any _ w.heap.size _ _ _ _ _ HO3.out HLO.out).mono ?_
      rintro e w3 ⟨⟨m, hm, rfl, hown4, hd4⟩, rfl⟩
      have HE : Hid (NumEnd w (N * 2 ^ k) (q + n + 1) (.returned (.slice A1 m c1)) w2) := ⟨_, _, _, _, rfl, ⟨hown4.mono (Nat.zero_le _), hd4⟩, by omega, HB2.out⟩
      clear hown4 hd4
      go_wp2
      go_ret
      exact HE.out
end Go.Proofs.YtafboimlchjnaaaDoor
