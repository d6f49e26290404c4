/- Texts of numbers: what Itoa writes numberOf reads. -/
import Derived.Test.YtifldnkcheobhaaDoorFai
import Derived.Test.YtifldnkcheobhaaDoorShelf
import Derived.Test.YtifldnkcheobhaaDoorTel
import Derived.Test.YtifldnkcheobhaaDoorCaK
import Derived.Lib.AtoiErrMem
namespace Go.Proofs.YtifldnkcheobhaaDoor
open Go.RowKit
set_option maxRecDepth 100000
set_option linter.unusedVariables false
set_option linter.unusedSimpArgs false
set_option maxHeartbeats 4000000

theorem dig_head (u : Nat) : ∃ c r, Lib.decDigits u = c :: r ∧ 48 ≤ c.toNat := by
  induction u using Nat.strongRecOn with
  | _ u ih =>
    rw [Lib.decDigits]
    split
    · refine ⟨_, _, rfl, ?_⟩
      have : (UInt8.ofNat (48 + u)).toNat = 48 + u := by simp [UInt8.toNat_ofNat']; omega
      omega
    · obtain ⟨c, r, h1, h2⟩ := ih (u / 10) (by omega)
      rw [h1]
      exact ⟨c, _, rfl, h2⟩
theorem dig_parse (u : Nat) : ∀ r, u < 18446744073709551616 → Lib.parseUint10 0 (Lib.decDigits u ++ r) = Lib.parseUint10 u r := by
  induction u using Nat.strongRecOn with
  | _ u ih =>
    intro r hu
    rw [Lib.decDigits]
    split
    · rename_i h
      have e : (UInt8.ofNat (48 + u)).toNat = 48 + u := by simp [UInt8.toNat_ofNat']; omega
      simp only [List.singleton_append, Lib.parseUint10, e]
      rw [if_pos (by omega), if_neg (by omega), if_neg (by omega)]
      congr 1
      omega
    · rename_i h
      have e : (UInt8.ofNat (48 + u % 10)).toNat = 48 + u % 10 := by simp [UInt8.toNat_ofNat']; omega
      rw [List.append_assoc, ih (u / 10) (by omega) _ (by omega)]
      simp only [List.singleton_append, Lib.parseUint10, e]
      rw [if_pos (by omega), if_neg (by omega), if_neg (by omega)]
      congr 1
      omega
theorem dig_len (k : Nat) : ∀ u, u < 10 ^ (k + 1) → (Lib.decDigits u).length ≤ k + 1 := by
  induction k with
  | zero => intro u hu; rw [Lib.decDigits, dif_pos (by omega)]; simp
  | succ k ih =>
    intro u hu
    rw [Lib.decDigits]
    split
    · simp
    · have := ih (u / 10) (by rw [Nat.pow_succ] at hu; omega)
      simp; omega
theorem mag_dig (u : Nat) (hu : u < 18446744073709551616) : Lib.parseMag (Lib.decDigits u) = .ok u := by
  obtain ⟨c, r, h1, h2⟩ := dig_head u
  unfold Lib.parseMag
  rw [if_neg (by rw [h1]; simp)]
  have := dig_parse u [] hu
  rw [List.append_nil] at this
  rw [this]; rfl
theorem atoi_itoa (n : Int) (h0 : -9223372036854775808 ≤ n) (h1 : n ≤ 9223372036854775807) : Lib.atoiAll (Lib.itoa n) = .ok n := by
  unfold Lib.itoa
  split
  · rename_i hn
    have e : (45 : UInt8).toNat = 45 := rfl
    have hm := mag_dig n.natAbs (by omega)
    simp only [Lib.atoiAll, e, or_true, if_true, hm, not_true_eq_false, false_and, if_false, true_and]
    rw [if_neg (by omega)]
    congr 1
    omega
  · rename_i hn
    obtain ⟨c, r, h3, h4⟩ := dig_head n.toNat
    have hm := mag_dig n.toNat (by omega)
    rw [h3] at hm ⊢
    simp only [Lib.atoiAll]
    rw [if_neg (by omega), hm]
    simp only
    rw [if_neg (by omega), if_neg (by omega), if_neg (by omega)]
    congr 1
    omega
theorem itoa_len (n : Int) (h0 : -9223372036854775808 ≤ n) (h1 : n ≤ 9223372036854775807) : (Lib.itoa n).length ≤ 21 := by
  unfold Lib.itoa
  split
  · have := dig_len 19 n.natAbs (by omega)
    simp; omega
  · have := dig_len 19 n.toNat (by omega)
    omega
theorem numberOf_any (s : ByteArray) (n : Int) (hs : s.size ≤ 100) (h : Lib.atoiAll s.data.toList = .ok n) (w : World) :
    Calls Tryd.prog 37 #[.string s] w fun e w' => e = .returned (.int .i64 n) ∧ Off [] w w' := by
  have HA := Lib.hid (Tryd.strconv_Atoi_ok s (by omega) n h w)
  have hn2 : ∀ w : World, (binOp BinOp.neq 101 .nilIface .nilIface).run Tryd.prog w = .ok (.bool false) w := fun w => by kernel_rfl
  clear h
  go_enter Tryd.func37, Tryd.ntmps37
  go_wp2_with fail
  with_reducible refine HA.out.mono ?_
  rintro e w2 ⟨rfl, hW⟩
  have ho : Off [] w w2 := by
    rcases hW with rfl | ⟨t, rfl⟩
    · exact Off.refl _ _
    · exact Off.of_below (Lib.bytesWorld_below w _ t)
  have HO := Lib.hid ho
  clear hW ho
  go_wp2
  go_ret
  exact ⟨rfl, HO.out⟩
theorem gTabN : Tryd.prog.globalNamed "internal/strconv.uint64pow10" = some 3 := by kernel_rfl
theorem tab_glb {w0 w : World} (h : Glb w0 w) (ht : Lib.TabIs Tryd.prog w0 "internal/strconv.uint64pow10" .u64 Lib.pow10Tab) : Lib.TabIs Tryd.prog w "internal/strconv.uint64pow10" .u64 Lib.pow10Tab := by
  unfold Lib.TabIs World.var? at *
  rw [gTabN] at *
  simp only [Option.bind_some] at *
  rw [h.2.1 3 (by decide)]
  exact ht
theorem grow_off (w : World) (k : Nat) (os : Array Obj) : Off [] w (Sort.grow (w.drewN k) os) := by
  refine ⟨rfl, rfl, rfl, ?_, fun i hi _ => ?_⟩
  · simp [Sort.grow, World.drewN]
  · show (w.heap ++ os)[i]? = _
    rw [Array.getElem?_append_left hi]
theorem text_any (w0 : World) (ht : Lib.TabIs Tryd.prog w0 "internal/strconv.uint64pow10" .u64 Lib.pow10Tab) : TextC w0 := by
  intro W n hg h0 h1
  refine ⟨⟨(Lib.itoa n).toArray⟩, fun W' hg' => ?_, fun W' hg' => ?_⟩
  · refine (Tryd.strconv_Itoa n h0 h1 W' (tab_glb hg' ht)).mono ?_
    rintro e w' ⟨rfl, k, os, rfl⟩
    exact ⟨rfl, grow_off W' k os⟩
  · refine numberOf_any _ n ?_ ?_ W'
    · have := itoa_len n h0 h1
      show (Lib.itoa n).toArray.size ≤ 100
      simp; omega
    · have := atoi_itoa n h0 h1
      simpa using this
/-- Run of any program, whatever its panics. -/
theorem run_all (w0 : World) (ht : Lib.TabIs Tryd.prog w0 "internal/strconv.uint64pow10" .u64 Lib.pow10Tab) (w : World) (Pa : Value) (p : List (List ActV)) (hg : Glb w0 w) (h : ProgQ w w.heap.size Pa p) (hr : ProgR p) :
    Calls Tryd.prog 13 #[Pa] w (RunA w p) :=
  runA_any (tell_any w0) (fail_any w0 (text_any w0 ht)) w Pa p hg hg.2.2 h hr
end Go.Proofs.YtifldnkcheobhaaDoor
