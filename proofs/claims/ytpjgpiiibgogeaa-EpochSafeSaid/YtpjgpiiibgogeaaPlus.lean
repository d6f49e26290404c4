/- Contract: Plus of the document's numbers. -/
import Derived.Test.YtpjgpiiibgogeaaWord
import Derived.Maps.AppendAt
namespace Go.Proofs.Ytpjgpiiibgogeaa
open Go.RowKit
set_option maxRecDepth 100000

theorem u64_info : (Try.prog.info? 120).map (fun i => (i.zero, i.size, i.bytes)) = some (some (.int .u64 0), 1, 8) := by kernel_rfl

/-- What an append of one digit leaves. -/
theorem Own.snoc {w1 : World} {B n d : Nat} {xs : List Nat} {v' : Value}
    (h : w1.ownsRow B 120 1 v' (n + 1) (xs.map U ++ [.int .u64 ((d : Nat) : Int)])) :
    ∃ A' c', v' = .slice A' (n + 1) c' ∧ Own w1 B A' (n + 1) c' (xs ++ [d]) := by
  rcases h.2 with ⟨h1, h2⟩ | ⟨g, cap, cur, h1, _⟩
  · omega
  · subst h1
    exact ⟨_, _, rfl, by unfold Own; rw [List.map_append]; exact h⟩

/-- What Plus has done before its round i: the digits of c and what is carried make the two sums below i. -/
def PlusRel (xs ys cs : List Nat) (i : Nat) (cy : Nat) : Prop :=
  cs.length = i ∧ (∀ d ∈ cs, d < 4294967296) ∧ cy ≤ 1 ∧ Mth.val cs + 4294967296 ^ i * cy = Mth.val (xs.take i) + Mth.val (ys.take i)

theorem take_val_succ (xs : List Nat) (i : Nat) : Mth.val (xs.take (i + 1)) = Mth.val (xs.take i) + 4294967296 ^ i * xs.getD i 0 := by
  rcases Nat.lt_or_ge i xs.length with h | h
  · rw [Mth.take_succ_getD xs i h, Mth.val_snoc, List.length_take, Nat.min_eq_left (by omega)]
  · rw [List.take_of_length_le (by omega), List.take_of_length_le h, List.getD_eq_getElem?_getD, List.getElem?_eq_none h]
    simp

theorem PlusRel.step {xs ys cs : List Nat} {i cy : Nat} (h : PlusRel xs ys cs i cy) (hx : ∀ d ∈ xs, d < 4294967296) (hy : ∀ d ∈ ys, d < 4294967296) :
    PlusRel xs ys (cs ++ [(cy + xs.getD i 0 + ys.getD i 0) % 4294967296]) (i + 1) ((cy + xs.getD i 0 + ys.getD i 0) / 4294967296) := by
  obtain ⟨h1, h2, h3, h4⟩ := h
  have gx := getD_lt xs hx i
  have gy := getD_lt ys hy i
  refine ⟨by simp [h1], fun d hd => ?_, by omega, ?_⟩
  · rcases List.mem_append.1 hd with hd | hd
    · exact h2 d hd
    · simp at hd; omega
  · rw [Mth.val_snoc, take_val_succ, take_val_succ, h1, Nat.pow_succ]
    generalize xs.getD i 0 = x at *
    generalize ys.getD i 0 = y at *
    generalize 4294967296 ^ i = p at *
    have e : p * ((cy + x + y) % 4294967296) + p * 4294967296 * ((cy + x + y) / 4294967296) = p * (cy + x + y) := by
      rw [Nat.mul_assoc, ← Nat.mul_add, Nat.mod_add_div]
    rw [Nat.mul_add, Nat.mul_add] at e
    omega

theorem PlusRel.done {xs ys cs : List Nat} {i N M : Nat} (h : PlusRel xs ys cs i 0) (hx : Mth.Lo xs N) (hy : Mth.Lo ys M) (h1 : xs.length ≤ i) (h2 : ys.length ≤ i) : Mth.Lo cs (N + M) := by
  obtain ⟨_, h3, _, h4⟩ := h
  rw [List.take_of_length_le h1, List.take_of_length_le h2, hx.2, hy.2] at h4
  exact ⟨h3, by omega⟩

theorem getD_past (xs : List Nat) (i : Nat) (h : xs.length ≤ i) : xs.getD i 0 = 0 := by
  rw [List.getD_eq_getElem?_getD, List.getElem?_eq_none h]; rfl

/-- The loop's relation: the digits that are done, the carry, the place, the world. -/
def PlusInv (w : World) (xs ys : List Nat) (n m : Nat) (cv cyv iv : Value) (wr : World) : Prop :=
  ∃ (i cy c : Nat) (A : Option Addr) (cs : List Nat), iv = .int .i64 (i : Int) ∧ cyv = .int .u64 (cy : Int) ∧ cv = .slice A i c ∧ Own wr w.heap.size A i c cs ∧ PlusRel xs ys cs i cy ∧ Below w.heap.size w wr ∧ i ≤ max n m + 1 ∧ (max n m < i → cy = 0)

set_option maxHeartbeats 1600000 in
theorem plus_any (w : World) (A B : Option Addr) (n m c d : Nat) (xs ys : List Nat) (N M : Nat) (hA : Num w A n c xs N) (hB : Num w B m d ys M) (hn : n ≤ 1048576) (hm : m ≤ 1048576) :
    Calls Try.prog 94 #[.slice A n c, .slice B m d] w (NumEnd w (N + M) (max n m + 1)) := by
  obtain ⟨i0, hi, hz0, hz1, hz2⟩ := info_parts u64_info
  have hxl := hA.own.len
  have hyl := hB.own.len
  have hx := hA.dig.1.1
  have hy := hB.dig.1.1
  go_enter Try.func94, Try.ntmps94
  go_wp2
  go_loopw [5, 6, 7] (fun cv cyv iv wr => PlusInv w xs ys n m cv cyv iv wr) (fun _ _ iv _ => max n m + 1 - (intOf iv).toNat)
  case atStart => exact ⟨0, 0, 0, none, [], rfl, rfl, rfl, ⟨rfl, .inl ⟨rfl, rfl⟩⟩, ⟨rfl, by simp, by omega, by simp [Mth.val]⟩, Below.refl _ _, by omega, fun h => rfl⟩
  case round =>
    obtain ⟨i, cy, cc, C, cs, rfl, rfl, rfl, hown, hrel', hbel, hi1, hi2⟩ := hrel
    have hcy := hrel'.2.2.1
    have hcl := hown.len
    have hst := hrel'.step hx hy
    have hpx := getD_past xs i
    have hpy := getD_past ys i
    have hgx := getD_lt xs hx i
    have hgy := getD_lt ys hy i
    have HA := Lib.hid (hA.below hbel)
    have HB := Lib.hid (hB.below hbel)
    have HOWN := Lib.hid hown
    have HREL := Lib.hid hrel'
    have HBEL := Lib.hid hbel
    rw [hxl] at hpx
    rw [hyl] at hpy
    have HXL := Lib.hid hxl
    have HYL := Lib.hid hyl
    have HCL := Lib.hid hcl
    have hsz := hbel.size
    clear hrel' hown hbel hcl hxl hyl
    rcases Nat.lt_or_ge i n with h1 | h1
    · rcases Nat.lt_or_ge i m with h2 | h2
      · obtain ⟨g1, rfl, _, _, hc1⟩ := HA.out.own.at_ (k := i) h1
        obtain ⟨g2, rfl, _, _, hc2⟩ := HB.out.own.at_ (k := i) h2
        clear hpx hpy
        generalize xs.getD i 0 = x at hc1 hst hgx
        generalize ys.getD i 0 = y at hc2 hst hgy
        have HST := Lib.hid hst
        clear hst
        go_wp2_with (at_builtin; refine wpList_append_own _ rfl _ _ 161 rfl w.heap.size 120 i0 (.int .u64 0) 1 8 Try.underlying161 hi hz0 hz1 hz2 rfl (by decide) _ _ _ rfl (World.ownsRow.alloc HOWN.out _) ⟨wr.heap.size, 0, none⟩ 1 1 [_] rfl rfl (cell_one_new _ _ _) ?c2 ?c3 ?c4 ?c5 ?_)
        case c2 => intro u hu; simp at hu; subst hu; rfl
        case c3 => unfold maxLen; omega
        case c4 => omega
        case c5 => simp; omega
        intro v1 w1 hown1 hgrow1 _
        have hown2 := Own.snoc (d := (cy + x + y) % 4294967296) (by simpa using hown1)
        have hr : ∀ j, (Value.slice C i cc).ownBlock = some j → w.heap.size ≤ j := fun j hj => (World.ownsRow.lt HOWN.out j hj).1
        have hbel1 := (HBEL.out.alloc hsz _).grown hgrow1 (by simp; omega) hr
        obtain ⟨A1, c1, hv1, hown3⟩ := hown2
        have HO := Lib.hid hown3
        have HB2 := Lib.hid hbel1
        subst hv1
        clear hown1 hgrow1 hr hbel1 hown3
        go_wp2
        go_roundw
        case rel => exact ⟨i + 1, (cy + x + y) / 4294967296, c1, A1, _, by go_num, by go_num, rfl, HO.out, HST.out, HB2.out, by omega, fun h => by omega⟩
        case measure => simp [intOf]; omega
      · obtain ⟨g1, rfl, _, _, hc1⟩ := HA.out.own.at_ (k := i) h1
        rw [hpy h2] at hst hgy
        clear hpx hpy
        generalize xs.getD i 0 = x at hc1 hst hgx
        have HST := Lib.hid hst
        clear hst
        go_wp2_with (at_builtin; refine wpList_append_own _ rfl _ _ 161 rfl w.heap.size 120 i0 (.int .u64 0) 1 8 Try.underlying161 hi hz0 hz1 hz2 rfl (by decide) _ _ _ rfl (World.ownsRow.alloc HOWN.out _) ⟨wr.heap.size, 0, none⟩ 1 1 [_] rfl rfl (cell_one_new _ _ _) ?c2 ?c3 ?c4 ?c5 ?_)
        case c2 => intro u hu; simp at hu; subst hu; rfl
        case c3 => unfold maxLen; omega
        case c4 => omega
        case c5 => simp; omega
        intro v1 w1 hown1 hgrow1 _
        have hown2 := Own.snoc (d := (cy + x + 0) % 4294967296) (by simpa using hown1)
        have hr : ∀ j, (Value.slice C i cc).ownBlock = some j → w.heap.size ≤ j := fun j hj => (World.ownsRow.lt HOWN.out j hj).1
        have hbel1 := (HBEL.out.alloc hsz _).grown hgrow1 (by simp; omega) hr
        obtain ⟨A1, c1, hv1, hown3⟩ := hown2
        have HO := Lib.hid hown3
        have HB2 := Lib.hid hbel1
        subst hv1
        clear hown1 hgrow1 hr hbel1 hown3
        go_wp2
        go_roundw
        case rel => exact ⟨i + 1, (cy + x + 0) / 4294967296, c1, A1, _, by go_num, by go_num, rfl, HO.out, HST.out, HB2.out, by omega, fun h => by omega⟩
        case measure => simp [intOf]; omega
    · rcases Nat.lt_or_ge i m with h2 | h2
      · rw [hpx h1] at hst hgx
        obtain ⟨g2, rfl, _, _, hc2⟩ := HB.out.own.at_ (k := i) h2
        clear hpx hpy
        generalize ys.getD i 0 = y at hc2 hst hgy
        have HST := Lib.hid hst
        clear hst
        go_wp2_with (at_builtin; refine wpList_append_own _ rfl _ _ 161 rfl w.heap.size 120 i0 (.int .u64 0) 1 8 Try.underlying161 hi hz0 hz1 hz2 rfl (by decide) _ _ _ rfl (World.ownsRow.alloc HOWN.out _) ⟨wr.heap.size, 0, none⟩ 1 1 [_] rfl rfl (cell_one_new _ _ _) ?c2 ?c3 ?c4 ?c5 ?_)
        case c2 => intro u hu; simp at hu; subst hu; rfl
        case c3 => unfold maxLen; omega
        case c4 => omega
        case c5 => simp; omega
        intro v1 w1 hown1 hgrow1 _
        have hown2 := Own.snoc (d := (cy + 0 + y) % 4294967296) (by simpa using hown1)
        have hr : ∀ j, (Value.slice C i cc).ownBlock = some j → w.heap.size ≤ j := fun j hj => (World.ownsRow.lt HOWN.out j hj).1
        have hbel1 := (HBEL.out.alloc hsz _).grown hgrow1 (by simp; omega) hr
        obtain ⟨A1, c1, hv1, hown3⟩ := hown2
        have HO := Lib.hid hown3
        have HB2 := Lib.hid hbel1
        subst hv1
        clear hown1 hgrow1 hr hbel1 hown3
        go_wp2
        go_roundw
        case rel => exact ⟨i + 1, (cy + 0 + y) / 4294967296, c1, A1, _, by go_num, by go_num, rfl, HO.out, HST.out, HB2.out, by omega, fun h => by omega⟩
        case measure => simp [intOf]; omega
      · rcases Nat.eq_zero_or_pos cy with h3 | h3
        · subst h3
          have hlo := HREL.out.done hA.dig.1 hB.dig.1 (by have := HXL.out; omega) (by have := HYL.out; omega)
          have HLO := Lib.hid hlo
          clear hlo hst hpx hpy hgx hgy
          go_wp2_with fail
          refine (norm_any _ w.heap.size _ _ _ _ _ HOWN.out HLO.out).mono ?_
          rintro e w1 ⟨⟨k, hk, rfl, hown1, hd1⟩, rfl⟩
          have HE : Hid (NumEnd w (N + M) (max n m + 1) (.returned (.slice C k cc)) wr) := ⟨_, _, _, _, rfl, ⟨hown1.mono (Nat.zero_le _), hd1⟩, by omega, HBEL.out⟩
          clear hown1 hd1
          go_wp2
          go_ret
          exact HE.out
        · rw [hpx h1] at hst hgx
          rw [hpy h2] at hst hgy
          clear hpx hpy
          have HST := Lib.hid hst
          clear hst
          go_wp2_with (at_builtin; refine wpList_append_own _ rfl _ _ 161 rfl w.heap.size 120 i0 (.int .u64 0) 1 8 Try.underlying161 hi hz0 hz1 hz2 rfl (by decide) _ _ _ rfl (World.ownsRow.alloc HOWN.out _) ⟨wr.heap.size, 0, none⟩ 1 1 [_] rfl rfl (cell_one_new _ _ _) ?c2 ?c3 ?c4 ?c5 ?_)
          case c2 => intro u hu; simp at hu; subst hu; rfl
          case c3 => unfold maxLen; omega
          case c4 => omega
          case c5 => simp; omega
          intro v1 w1 hown1 hgrow1 _
          have hown2 := Own.snoc (d := (cy + 0 + 0) % 4294967296) (by simpa using hown1)
          have hr : ∀ j, (Value.slice C i cc).ownBlock = some j → w.heap.size ≤ j := fun j hj => (World.ownsRow.lt HOWN.out j hj).1
          have hbel1 := (HBEL.out.alloc hsz _).grown hgrow1 (by simp; omega) hr
          obtain ⟨A1, c1, hv1, hown3⟩ := hown2
          have HO := Lib.hid hown3
          have HB2 := Lib.hid hbel1
          subst hv1
          clear hown1 hgrow1 hr hbel1 hown3
          go_wp2
          go_roundw
          case rel => exact ⟨i + 1, (cy + 0 + 0) / 4294967296, c1, A1, _, by go_num, by go_num, rfl, HO.out, HST.out, HB2.out, by omega, fun h => by omega⟩
          case measure => simp [intOf]; omega
end Go.Proofs.Ytpjgpiiibgogeaa
