/- Contract: Times of the document's numbers. -/
import Derived.Test.YtafboimlchjnaaaDoorLeft
import Derived.Test.YtafboimlchjnaaaDoorComp
import Derived.Test.YtafboimlchjnaaaDoorSize
namespace Go.Proofs.YtafboimlchjnaaaDoor
open Go.RowKit
set_option maxRecDepth 100000

/-- What Times has done before round j of round i. -/
def TimesRel (xs ys cs : List Nat) (i j cy : Nat) : Prop :=
  cs.length = xs.length + ys.length ∧ (∀ d ∈ cs, d < 4294967296) ∧ cy < 4294967296 ∧ (∀ k, i + ys.length ≤ k → cs.getD k 0 = 0) ∧
    Mth.val cs + 4294967296 ^ (i + j) * cy = Mth.val (xs.take i) * Mth.val ys + 4294967296 ^ i * (xs.getD i 0 * Mth.val (ys.take j))

theorem TimesRel.step {xs ys cs : List Nat} {i j cy : Nat} (h : TimesRel xs ys cs i j cy) (hx : ∀ d ∈ xs, d < 4294967296) (hy : ∀ d ∈ ys, d < 4294967296) (hi : i < xs.length) (hj : j < ys.length) :
    TimesRel xs ys (cs.set (i + j) ((cy + (xs.getD i 0 * ys.getD j 0 + cs.getD (i + j) 0)) % 4294967296)) i (j + 1) ((cy + (xs.getD i 0 * ys.getD j 0 + cs.getD (i + j) 0)) / 4294967296) := by
  obtain ⟨h1, h2, h3, h4, h5⟩ := h
  have gx := getD_lt xs hx i
  have gy := getD_lt ys hy j
  have gc := getD_lt cs h2 (i + j)
  have gm : xs.getD i 0 * ys.getD j 0 ≤ 4294967295 * 4294967295 := Nat.mul_le_mul (by omega) (by omega)
  refine ⟨by simpa using h1, mem_set_lt cs _ _ h2 (by omega), by omega, fun k hk => ?_, ?_⟩
  · rw [getD_set_ne cs _ _ _ (by omega)]; exact h4 k hk
  · have hs := val_set cs (i + j) ((cy + (xs.getD i 0 * ys.getD j 0 + cs.getD (i + j) 0)) % 4294967296) (by omega)
    rw [take_val_succ, ← Nat.add_assoc i j 1, Nat.pow_succ]
    generalize xs.getD i 0 = x at *
    generalize ys.getD j 0 = y at *
    generalize cs.getD (i + j) 0 = z at *
    have e : 4294967296 ^ (i + j) * ((cy + (x * y + z)) % 4294967296) + 4294967296 ^ (i + j) * 4294967296 * ((cy + (x * y + z)) / 4294967296) = 4294967296 ^ (i + j) * (cy + (x * y + z)) := by
      rw [Nat.mul_assoc, ← Nat.mul_add, Nat.mod_add_div]
    have e2 : 4294967296 ^ (i + j) * (cy + (x * y + z)) = 4294967296 ^ (i + j) * cy + 4294967296 ^ (i + j) * (x * y) + 4294967296 ^ (i + j) * z := by rw [Nat.mul_add, Nat.mul_add, Nat.add_assoc]
    have e3 : 4294967296 ^ i * (x * (Mth.val (ys.take j) + 4294967296 ^ j * y)) = 4294967296 ^ i * (x * Mth.val (ys.take j)) + 4294967296 ^ (i + j) * (x * y) := by
      rw [Nat.mul_add, Nat.mul_add, Nat.pow_add, Nat.mul_left_comm x, Nat.mul_assoc (4294967296 ^ i)]
    rw [e3]
    omega

/-- The end of a round of the outer loop: what was carried goes into the next digit. -/
theorem TimesRel.next {xs ys cs : List Nat} {i cy : Nat} (h : TimesRel xs ys cs i ys.length cy) (hi : i < xs.length) :
    cs.getD (i + ys.length) 0 = 0 ∧ TimesRel xs ys (cs.set (i + ys.length) cy) (i + 1) 0 0 := by
  obtain ⟨h1, h2, h3, h4, h5⟩ := h
  have hz := h4 (i + ys.length) (Nat.le_refl _)
  refine ⟨hz, by simpa using h1, mem_set_lt cs _ _ h2 h3, by omega, fun k hk => ?_, ?_⟩
  · rw [getD_set_ne cs _ _ _ (by omega)]; exact h4 k (by omega)
  · have hs := val_set cs (i + ys.length) cy (by omega)
    rw [hz, Nat.mul_zero, Nat.add_zero] at hs
    rw [List.take_of_length_le (Nat.le_refl _)] at h5
    rw [hs, h5, take_val_succ, List.take_zero, Nat.add_mul, Nat.mul_assoc (4294967296 ^ i)]
    simp [Mth.val]

theorem TimesRel.start (xs ys : List Nat) : TimesRel xs ys (List.replicate (xs.length + ys.length) 0) 0 0 0 := by
  refine ⟨by simp, fun d hd => by rw [(List.mem_replicate.1 hd).2]; omega, by omega, fun k _ => ?_, by simp [Mth.val, replicate_val]⟩
  rw [List.getD_eq_getElem?_getD, List.getElem?_replicate]
  split <;> rfl

theorem TimesRel.done {xs ys cs : List Nat} {i N M : Nat} (h : TimesRel xs ys cs i 0 0) (hx : Mth.Lo xs N) (hy : Mth.Lo ys M) (hi : xs.length ≤ i) : Mth.Lo cs (N * M) := by
  obtain ⟨h1, h2, h3, h4, h5⟩ := h
  rw [List.take_of_length_le hi, hx.2, hy.2, getD_past xs i hi] at h5
  exact ⟨h2, by simpa using h5⟩

def TimesInv (w : World) (xs ys : List Nat) (g l n : Nat) (kv : Value) (wr : World) : Prop :=
  ∃ (i : Nat) (cs : List Nat), kv = .int .i64 (i : Int) ∧ Own wr w.heap.size (some ⟨g, 0, none⟩) l l cs ∧ TimesRel xs ys cs i 0 0 ∧ Below w.heap.size w wr ∧ i ≤ n

def TimesInner (w : World) (xs ys : List Nat) (g l i m : Nat) (cyv kv : Value) (wr : World) : Prop :=
  ∃ (j cy : Nat) (cs : List Nat), kv = .int .i64 (j : Int) ∧ cyv = .int .u64 (cy : Int) ∧ Own wr w.heap.size (some ⟨g, 0, none⟩) l l cs ∧ TimesRel xs ys cs i j cy ∧ Below w.heap.size w wr ∧ j ≤ m

set_option maxHeartbeats 1600000 in
theorem times_any (w : World) (A B : Option Addr) (n m c d : Nat) (xs ys : List Nat) (N M : Nat) (hA : Num w A n c xs N) (hB : Num w B m d ys M) (hn : n ≤ 1048576) (hm : m ≤ 1048576) :
    Calls Tryd.prog 63 #[.slice A n c, .slice B m d] w (NumEnd w (N * M) (n + m)) := by
  obtain ⟨i0, hi, hz0, hz1, hz2⟩ := info_parts u64_info
  have hxl := hA.own.len
  have hyl := hB.own.len
  have hx := hA.dig.1.1
  have hy := hB.dig.1.1
  obtain ⟨l, hl⟩ : ∃ l, l = n + m := ⟨_, rfl⟩
  have hl1 : (l : Int) ≤ n + m := by omega
  have hl2 : (n : Int) + m ≤ l := by omega
  have HL := Lib.hid hl
  clear hl
  go_enter Tryd.func63, Tryd.ntmps63
  go_wp2_with (refine wpList_make_full _ rfl (.tmp 13) (.tmp 13) _ rfl w.heap.size 22 i0 (.int .u64 0) 1 Tryd.underlying87 hi hz0 hz1 .i64 .i64 _ _ l rfl rfl (by omega) (by omega) (by rw [hz2]; omega) (by unfold maxLen; omega) (Nat.le_refl _) ?_)
  intro w1 hown1 hgrow1
  have ho := Own.made hown1
  have hb1 : Below w.heap.size w w1 := (Below.refl _ _).grown hgrow1 (Nat.le_refl _) (by simp)
  have hrel0 : TimesRel xs ys (List.replicate l 0) 0 0 0 := by
    have := TimesRel.start xs ys
    rw [hxl, hyl, ← HL.out] at this
    exact this
  have HO := Lib.hid ho
  have HB1 := Lib.hid hb1
  have HREL0 := Lib.hid hrel0
  clear ho hb1 hrel0 hown1 hgrow1
  have HXL := Lib.hid hxl
  have HYL := Lib.hid hyl
  clear hxl hyl
  go_wp2
  go_loopw [17] (fun kv wr => TimesInv w xs ys w.heap.size l n kv wr) (fun kv _ => n - (intOf kv).toNat)
  case atStart => exact ⟨0, _, rfl, HO.out, HREL0.out, HB1.out, by omega⟩
  case round =>
    obtain ⟨i, cs, rfl, hown, hrel', hbel, hin⟩ := hrel
    have HOWN := Lib.hid hown
    have HREL := Lib.hid hrel'
    have HBEL := Lib.hid hbel
    clear hown hrel' hbel HO HB1 HREL0
    obtain ⟨wo, rfl⟩ : ∃ wo : World, wo = wr := ⟨_, rfl⟩
    rcases Nat.lt_or_ge i n with h1 | h1
    · have hgx := getD_lt xs hx i
      go_wp2
      go_loopw [7, 22] (fun cyv kv wr => TimesInner w xs ys w.heap.size l i m cyv kv wr) (fun _ kv _ => m - (intOf kv).toNat)
      case atStart => exact ⟨0, 0, _, rfl, rfl, HOWN.out, HREL.out, HBEL.out, by omega⟩
      case round =>
        obtain ⟨j, cy, cs2, rfl, rfl, hown2, hrel2, hbel2, hjm⟩ := hrel
        have HA := Lib.hid (hA.below hbel2)
        have HB := Lib.hid (hB.below hbel2)
        have HBEL2 := Lib.hid hbel2
        have hcy := hrel2.2.2.1
        have hsz := hbel2.size
        clear HOWN HREL HBEL hbel2
        rcases Nat.lt_or_ge j m with h2 | h2
        · have hst := hrel2.step hx hy (by have := HXL.out; omega) (by have := HYL.out; omega)
          have hgy := getD_lt ys hy j
          have hgc := getD_lt cs2 hrel2.2.1 (i + j)
          have hci := hown2.cell (k := i + j) (by omega)
          have hfi := hown2.frozen (i + j)
          have hos := hown2.stored (i + j) ((cy + (xs.getD i 0 * ys.getD j 0 + cs2.getD (i + j) 0)) % 4294967296)
          clear hrel2 hown2
          obtain ⟨g1, rfl, _, _, hc1⟩ := HA.out.own.at_ (k := i) h1
          obtain ⟨g2, rfl, _, _, hc2⟩ := HB.out.own.at_ (k := j) h2
          have hmul : xs.getD i 0 * ys.getD j 0 ≤ 4294967295 * 4294967295 := Nat.mul_le_mul (by omega) (by omega)
          generalize xs.getD i 0 = x at *
          generalize ys.getD j 0 = y at *
          generalize cs2.getD (i + j) 0 = z at *
          have hw1 : IntKind.u64.wrap ((x : Int) * (y : Int)) = ((x * y : Nat) : Int) := by
            rw [show (x : Int) * (y : Int) = ((x * y : Nat) : Int) by simp]
            exact u64_in (by omega) (by omega)
          generalize x * y = p at *
          have hw2 : IntKind.u64.wrap ((p : Int) + (z : Int)) = (p : Int) + (z : Int) := u64_in (by omega) (by omega)
          have hw3 : IntKind.u64.wrap ((cy : Int) + ((p : Int) + (z : Int))) = (cy : Int) + ((p : Int) + (z : Int)) := u64_in (by omega) (by omega)
          have hw4 : IntKind.i64.wrap ((i : Int) + (j : Int)) = (i : Int) + (j : Int) := IntWalk.i64_in _ (by omega)
          have hw5 : (0 : Int) ≤ (i : Int) + (j : Int) := by omega
          have hw6 : ((i : Int) + (j : Int)).toNat = i + j := by omega
          have hw7 : (i : Int) + (j : Int) < (l : Int) := by omega
          have HST := Lib.hid hst
          have HOS := Lib.hid hos
          clear hst hos
          go_wp2
          go_quiet (fail)
          clear hw1 hw2 hw3 hw4 hw5 hw6
          go_wp2
          go_roundw
          case rel =>
            have e : ((cy : Int) + ((p : Int) + (z : Int))) % 4294967296 = (((cy + (p + z)) % 4294967296 : Nat) : Int) := by omega
            rw [e]
            exact ⟨j + 1, _, _, by go_num, by go_num, HOS.out, HST.out, (below_drewN HBEL2.out _).setCell (Nat.le_refl _) _, by omega⟩
          case measure => simp [intOf]; omega
        · obtain rfl : j = m := by omega
          obtain ⟨hz, hnx⟩ := TimesRel.next (i := i) (by rw [HYL.out]; exact hrel2) (by have := HXL.out; omega)
          rw [HYL.out] at hz hnx
          have hci := hown2.cell (k := i + j) (by omega)
          have hfi := hown2.frozen (i + j)
          have hos := hown2.stored (i + j) cy
          rw [hz] at hci
          have HNX := Lib.hid hnx
          have HOS := Lib.hid hos
          clear hz hnx hos hrel2 hown2
          go_wp2
          go_roundw
          case rel => exact ⟨i + 1, _, by go_num, HOS.out, HNX.out, HBEL2.out.setCell (Nat.le_refl _) _, by omega⟩
          case measure => simp [intOf]; omega
    · have hlo := HREL.out.done hA.dig.1 hB.dig.1 (by have := HXL.out; omega)
      have HLO := Lib.hid hlo
      clear hlo
      go_wp2_with fail
      refine (norm_any _ w.heap.size _ _ _ _ _ HOWN.out HLO.out).mono ?_
      rintro e w3 ⟨⟨k, hk, rfl, hown4, hd4⟩, rfl⟩
      have HE : Hid (NumEnd w (N * M) (n + m) (.returned (.slice (some ⟨w.heap.size, 0, none⟩) k l)) wo) := ⟨_, _, _, _, rfl, ⟨hown4.mono (Nat.zero_le _), hd4⟩, by omega, HBEL.out⟩
      clear hown4 hd4
      go_wp2
      go_ret
      exact HE.out
end Go.Proofs.YtafboimlchjnaaaDoor
