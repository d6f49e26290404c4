/- Contracts of the library's Grow of nothing, and Concat. -/
import Derived.Test.YtnkecjjfbllgdaaPermC
namespace Go.Proofs.Ytnkecjjfbllgdaa
open Go.RowKit
set_option maxRecDepth 100000

set_option maxHeartbeats 1600000 in
theorem grow_any (w : World) (n : Nat) (hn : n ≤ 1000000) :
    Calls Try.prog 93 #[.slice none 0 0, .int .i64 (n : Int)] w fun e w' => ∃ A c, e = .returned (.slice A 0 c) ∧ OwnI w' w.heap.size A 0 c [] ∧ Below w.heap.size w w' := by
  rcases Nat.eq_zero_or_pos n with rfl | hp
  · go_enter Try.func93, Try.ntmps93
    go_wp2
    go_ret
    exact ⟨none, 0, rfl, OwnI.nil _ _, Below.refl _ _⟩
  · obtain ⟨i0, hi, hz0, hz1, hz2⟩ := info_parts i64_info
    have hrz : ∀ ty, (Builtin.append_ #[53, 3] ty #[.slice none 0 0, .int .i64 (n : Int)]).run Try.prog w =
        .ok (.slice (some ⟨w.heap.size, 0, none⟩) n (grownCap w n 0 2)) (w.drew.alloc (.cells (([] : List Value).toArray ++ Builtin.zeroCells (Value.int .i64 0).cells n ++ Builtin.zeroCells (Value.int .i64 0).cells (grownCap w n 0 2 - n)) 2)) := fun ty => by
      have hold : (Builtin.firstCells i0.size 0 (.slice none 0 0)).run Try.prog w.drew = .ok ([] : List Value).toArray w.drew := run_firstCells_none w.drew i0.size 0 0 0
      have h := Lib.run_append_grow_zeros w 53 3 ty 2 i0 (.int .i64 0) .i64 .i64 Try.underlying53 Try.underlying3 hi hz0 none 0 0 [] hold n (by omega) (by omega) (by omega) (by omega)
        (by rw [hz2]; omega) (by rw [Nat.zero_add]; exact growslice_fits (by omega) (by rw [hz2]; omega))
      rw [Nat.zero_add] at h
      exact h
    have hGn : n ≤ grownCap w n 0 2 := grownCap_ge w _ _ _
    have hGm := grownCap_le_maxLen w n 0 2 (by unfold maxLen; omega)
    obtain ⟨G, hG⟩ : ∃ G, G = grownCap w n 0 2 := ⟨_, rfl⟩
    rw [← hG] at hrz hGn hGm
    obtain ⟨cur, hcur⟩ : ∃ cur, cur = Builtin.zeroCells #[Value.int .i64 0] n ++ Builtin.zeroCells #[Value.int .i64 0] (G - n) := ⟨_, rfl⟩
    have hcz : cur.size = G := by rw [hcur]; simp [Builtin.zeroCells]; omega
    rw [show ([] : List Value).toArray ++ Builtin.zeroCells (Value.int .i64 0).cells n ++ Builtin.zeroCells (Value.int .i64 0).cells (G - n) = cur by rw [hcur]; simp [Value.cells]] at hrz
    have hO : OwnI ((w.alloc (.cells cur 2)).drew) w.heap.size (some ⟨w.heap.size, 0, none⟩) 0 G [] := by
      refine ⟨by simp, .inr ⟨w.heap.size, G, cur, rfl, Nat.le_refl _, ?_, Nat.zero_le _, hGm, by rw [hcz]; omega, by simp⟩⟩
      show (w.heap.push _)[w.heap.size]? = some _
      simp
    have HO := Lib.hid hO
    have hn0 : ¬ ((n : Int) < 0) := by omega
    have hp0 : (0 : Int) < n := by omega
    have HG := Lib.hid hGn
    unfold maxLen at hGm
    clear hG hO hcur hcz
    go_enter Try.func93, Try.ntmps93
    go_wp2_with (at_builtin; refine Lib.wpList_append_run _ rfl _ _ _ _ rfl _ _ rfl rfl _ _ (hrz _) ?_)
    all_goals (go_ret; exact ⟨_, _, rfl, HO.out, ((Below.refl _ _).alloc (Nat.le_refl _) _).drew⟩)

/-- Pieces that lie one behind the other in a slice of slices. -/
structure Pc where
  (A : Option Addr) (n c : Nat) (xs : List Int)
def catP (pc : Nat → Pc) : Nat → List Int
  | 0 => []
  | k + 1 => catP pc k ++ (pc k).xs
def PcAt (w : World) (B g m : Nat) (pc : Nat → Pc) : Prop := ∀ k, k < m → w.cell? ⟨g, k, none⟩ = some (.slice (pc k).A (pc k).n (pc k).c) ∧ ArgI w B (pc k).A (pc k).n (pc k).c (pc k).xs
theorem PcAt.below {w w' : World} {B g m : Nat} {pc : Nat → Pc} (h : PcAt w B g m pc) (hg : g < B) (hb : Below B w w') : PcAt w' B g m pc :=
  fun k hk => ⟨(hb.cell (p := ⟨g, k, none⟩) hg).trans (h k hk).1, (h k hk).2.below hb⟩
theorem catP_len {w : World} {B g m : Nat} {pc : Nat → Pc} (h : PcAt w B g m pc) {k : Nat} (hk : k < m) : (catP pc (k + 1)).length = (catP pc k).length + (pc k).n := by
  show (catP pc k ++ (pc k).xs).length = _
  rw [List.length_append, (h k hk).2.len]
theorem catP_mono {pc : Nat → Pc} {k m : Nat} (h : k ≤ m) : (catP pc k).length ≤ (catP pc m).length := by
  induction h with
  | refl => exact Nat.le_refl _
  | @step q _ ih => 
    have : (catP pc q.succ).length = (catP pc q).length + (pc q).xs.length := List.length_append
    omega

set_option maxHeartbeats 3200000 in
theorem concat_any (w : World) (B g m : Nat) (pc : Nat → Pc) (h : PcAt w B g m pc) (hg : g < B) (hB : B ≤ w.heap.size) (hm : 0 < m) (hm2 : m ≤ 1000) (hl : (catP pc m).length ≤ 1000000) :
    Calls Try.prog 75 #[.slice (some ⟨g, 0, none⟩) m m] w fun e w' => ∃ A c, e = .returned (.slice A (catP pc m).length c) ∧ OwnI w' w.heap.size A (catP pc m).length c (catP pc m) ∧ Below w.heap.size w w' := by
  have H := Lib.hid h
  have HM := Lib.hid (fun k (hk : k ≤ m) => Nat.le_trans (catP_mono (pc := pc) hk) hl)
  have HL := Lib.hid (fun k (hk : k < m) => catP_len h hk)
  have HG := Lib.hid (fun w n hn => grow_any w n hn)
  clear h
  go_enter Try.func75, Try.ntmps75
  go_wp2
  go_loop [3, 11] (fun sv iv => ∃ k : Nat, k ≤ m ∧ iv = .int .i64 (k : Int) ∧ sv = .int .i64 (((catP pc k).length : Nat) : Int)) (fun _ iv => m - (intOf iv).toNat)
  case atStart => exact ⟨0, Nat.zero_le _, rfl, rfl⟩
  case round =>
    obtain ⟨k, hk, rfl, rfl⟩ := hrel
    have hs := HM.out k hk
    rcases Nat.lt_or_ge k m with hlt | hge
    · have hs2 := HM.out (k + 1) hlt
      have hk1 := (H.out k hlt).1
      have hc := (H.out k hlt).2.cap
      have hle := (H.out k hlt).2.le
      unfold maxLen at hc
      have e := HL.out k hlt
      generalize pc k = P at hk1 hc hle e
      obtain ⟨A, n, c, xs⟩ := P
      simp only at hk1 hc hle e
      have hsn : (catP pc k).length + n ≤ 1000000 := by omega
      have HE := Lib.hid e
      clear e hs2
      generalize (catP pc k).length = s at *
      go_wp2
      all_goals
        go_round
        case rel => exact ⟨k + 1, by omega, by go_num, by rw [HE.out]; go_num⟩
        case measure => simp [intOf]; omega
    · obtain rfl : k = m := by omega
      have HG1 := Lib.hid (fun w => HG.out w (catP pc k).length hs)
      generalize hN : (catP pc k).length = N at *
      have HN := Lib.hid hN
      clear hN
      go_wp2_with fail
      with_reducible refine (HG1.out _).mono ?_
      rintro e w1 ⟨A0, c0, rfl, ho, hb⟩
      have HO := Lib.hid ho
      have HB := Lib.hid hb
      clear ho hb
      go_wp2
      go_loopw [6, 27] (fun sv iv wr => ∃ (q : Nat) (A : Option Addr) (c : Nat), q ≤ k ∧ iv = .int .i64 (q : Int) ∧ sv = .slice A (catP pc q).length c ∧ OwnI wr w.heap.size A (catP pc q).length c (catP pc q) ∧ Below w.heap.size w wr) (fun _ iv _ => k - (intOf iv).toNat)
      case atStart => exact ⟨0, A0, c0, Nat.zero_le _, rfl, rfl, HO.out, HB.out⟩
      case round =>
        obtain ⟨q, A, c, hq, rfl, rfl, ho, hb⟩ := hrel
        have HOq := Lib.hid ho
        have HBq := Lib.hid hb
        rcases Nat.lt_or_ge q k with hlt | hge2
        · have hk1 := ((H.out.below hg (hb.mono hB)) q hlt).1
          have HR := Lib.hid ((H.out.below hg (hb.mono hB)) q hlt).2
          have HE := Lib.hid (HL.out q hlt)
          have hcap := ((H.out.below hg (hb.mono hB)) q hlt).2.cap
          have hle := ((H.out.below hg (hb.mono hB)) q hlt).2.le
          have hs2 := HM.out (q + 1) hlt
          have HC := Lib.hid (show catP pc (q + 1) = catP pc q ++ (pc q).xs from rfl)
          unfold maxLen at hcap
          have hz := hb.size
          have hsum := HE.out
          clear ho hb
          generalize pc q = P at hk1 HR HE hcap hle HC hsum
          obtain ⟨S, n, d, zs⟩ := P
          simp only at hk1 hcap hle hsum
          generalize catP pc q = cq at *
          have hnn : n ≤ 1000000 := by omega
          have hbytes : cq.length + n ≤ 17592186044416 := by omega
          clear hsum hs2
          go_wp2_with (refine wpList_append_ints rfl (.tmp 31) (.tmp 32) rfl w.heap.size A cq.length c cq rfl HOq.out B S n d zs rfl HR.out hbytes hz ?_)
          intro A' c' w' ho hb
          have HR2 := Lib.hid (show _ ∧ _ from ⟨ho, HBq.out.trans hb⟩)
          clear ho hb
          go_wp2
          go_roundw
          case rel => exact ⟨q + 1, A', c', by omega, by go_num, by rw [HE.out], by rw [HE.out, HC.out]; exact HR2.out.1, HR2.out.2⟩
          case measure => simp [intOf]; omega
        · obtain rfl : q = k := by omega
          clear ho hb
          go_wp2
          go_ret
          exact ⟨A, c, by rw [← HN.out]; rfl, HOq.out, HBq.out⟩
end Go.Proofs.Ytnkecjjfbllgdaa
