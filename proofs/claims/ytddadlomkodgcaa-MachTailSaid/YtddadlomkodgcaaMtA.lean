/- The ring of the last accesses as a list; contract: Last. -/
import Derived.Test.YtddadlomkodgcaaMaJ
import Derived.Test.YtddadlomkodgcaaOpArg
import Derived.Test.YtddadlomkodgcaaCatM
import Derived.IntWalk
import Derived.Outline
namespace Go.Proofs.Ytddadlomkodgcaa
open Go.RowKit
set_option maxRecDepth 100000
set_option linter.unusedVariables false

abbrev noAcc : AccV := ⟨0, 0, 0, 0, 0, false⟩
def accCs (l : List AccV) : List Value := l.flatMap AccV.cells
theorem accCs_len (l : List AccV) : (accCs l).length = l.length * 6 := by
  induction l with
  | nil => rfl
  | cons a l ih => simp [accCs, AccV.cells] at *; omega
theorem accCs_append (l m : List AccV) : accCs (l ++ m) = accCs l ++ accCs m := by unfold accCs; rw [List.flatMap_append]
theorem accCs_at (l : List AccV) (i j : Nat) (h : i < l.length) (hj : j < 6) : (accCs l)[i * 6 + j]? = (l.getD i noAcc).cells[j]? := by
  induction l generalizing i with
  | nil => simp at h
  | cons a l ih =>
    cases i with
    | zero =>
      rw [Nat.zero_mul, Nat.zero_add]
      show (a.cells ++ accCs l)[j]? = a.cells[j]?
      rw [List.getElem?_append_left (by simp [AccV.cells]; omega)]
    | succ i =>
      have := ih i (by simpa using h)
      show (a.cells ++ accCs l)[(i + 1) * 6 + j]? = _
      rw [List.getElem?_append_right (by simp [AccV.cells]; omega)]
      have e : (i + 1) * 6 + j - a.cells.length = i * 6 + j := by simp [AccV.cells]; omega
      rw [e, this]; rfl
theorem accCs_put (l : List AccV) (i : Nat) (x : AccV) (h : i < l.length) : put6 (accCs l) i x = accCs (l.set i x) := by
  induction l generalizing i with
  | nil => simp at h
  | cons a l ih =>
    cases i with
    | zero => simp [put6, accCs, AccV.cells]
    | succ i =>
      have := ih i (by simpa using h)
      have e : (i + 1) * 6 = i * 6 + 1 + 1 + 1 + 1 + 1 + 1 := by omega
      unfold put6 at *
      rw [e]
      simpa [accCs, AccV.cells] using this
theorem acc_info : (Try.prog.info? 57).map (fun i => (i.zero, i.size, i.bytes)) = some (some (.agg #[.int .i64 0, .int .u8 0, .int .i64 0, .int .u64 0, .int .u64 0, .bool false]), 6, 48) := by kernel_rfl
theorem mz_drop : Try.zeroCells118.toList.drop 3 = accCs (List.replicate 64 noAcc) := by kernel_rfl
set_option maxHeartbeats 1600000 in
theorem mnew_acc (w : World) (n : Nat) (h1 : 1 ≤ n) (h2 : n ≤ 4096) :
    Calls Try.prog 14 #[.int .i64 (n : Int)] w fun e w' => ∃ b bw, e = .returned (.tuple #[.pointer (some ⟨b, 0, none⟩), .int .i64 0]) ∧ w.heap.size ≤ b ∧ w.heap.size ≤ bw ∧
      MachS w' b bw n (List.replicate n 0) 0 0 (accCs (List.replicate 64 noAcc)) ∧ Below w.heap.size w w' := by
  have HS := Lib.hid (isSize_any w n)
  obtain ⟨i0, hi, hz0, hz1, hz2⟩ := info_parts u64_inf
  have e : (decide ((1 : Int) ≤ (n : Int)) && decide ((n : Int) ≤ 4096)) = true := by simp; omega
  rw [e] at HS
  clear e
  go_enter Try.func14, Try.ntmps14
  go_wp2_with fail
  with_reducible refine HS.out.mono ?_
  rintro e w1 ⟨rfl, hw⟩
  subst hw
  go_wp2_with (refine wpList_make_row _ rfl (.tmp 7) (.tmp 7) _ rfl 31 i0 (.int .u64 0) Try.underlying39 hi hz0 hz1 rfl .i64 .i64 n rfl rfl (by rw [hz2]; omega) (by omega) ?_)
  rw [made_eq]
  have hbw := BlkL.new w (List.replicate n (.int .u64 0)) 31
  have HBW := Lib.hid hbw
  have hsz : w.heap.size < (w.alloc (.cells (List.replicate n (.int .u64 0)).toArray 31)).heap.size := by simp
  have B1 := Lib.hid ((Below.refl w.heap.size w).alloc (Nat.le_refl _) (.cells (List.replicate n (.int .u64 0)).toArray 31))
  have hz : (w.alloc (.cells (List.replicate n (.int .u64 0)).toArray 31)).heap.size = w.heap.size + 1 := by simp
  generalize hw1 : w.alloc (.cells (List.replicate n (.int .u64 0)).toArray 31) = w1 at *
  clear hbw
  go_wp2
  go_ret2
  rw [mz_set, mz_drop]
  refine ⟨w.heap.size + 1, w.heap.size, rfl, by omega, Nat.le_refl _, ⟨?_, ?_, by simp, by rw [accCs_len]; simp, by omega⟩, B1.out.alloc (by omega) _⟩
  · rw [← hz]; exact BlkL.new w1 _ _
  · rw [← rep_map]; exact HBW.out.alloc _
/-- The last m of k accesses, in their order. -/
def lastL (l : List AccV) (k m i : Nat) : List AccV := (List.range i).map fun j => l.getD ((k - m + j) % 64) noAcc
theorem lastL_succ (l : List AccV) (k m i : Nat) : lastL l k m (i + 1) = lastL l k m i ++ [l.getD ((k - m + i) % 64) noAcc] := by
  unfold lastL; rw [List.range_succ, List.map_append]; rfl
theorem lastL_at (l : List AccV) (k m n i : Nat) (h : i < n) : (lastL l k m n).getD i noAcc = l.getD ((k - m + i) % 64) noAcc := by
  unfold lastL; simp [List.getD_eq_getElem?_getD, h]
theorem lastL_len (l : List AccV) (k m n : Nat) : (lastL l k m n).length = n := by unfold lastL; simp
theorem MachS.acc {w : World} {b bw n : Nat} {ws : List Nat} {clk : Int} {k : Nat} {l : List AccV} (h : MachS w b bw n ws clk k (accCs l)) (hl : l.length = 64) {q j : Nat} (hq : q < 64) (hj : j < 6) :
    w.cell? ⟨b, 3 + q * 6 + j, none⟩ = (l.getD q noAcc).cells[j]? := by
  have h1 := accCs_at l q j (by omega) hj
  have hc : (l.getD q noAcc).cells.length = 6 := rfl
  have hj2 : j < (l.getD q noAcc).cells.length := by rw [hc]; exact hj
  rw [List.getElem?_eq_getElem hj2] at h1
  rw [List.getElem?_eq_getElem hj2]
  refine h.blk.cell (3 + q * 6 + j) _ ?_
  rw [Nat.add_assoc, show ∀ (x y z : Value) (r : List Value) (i : Nat), (x :: y :: z :: r)[3 + i]? = r[i]? from fun x y z r i => by rw [Nat.add_comm 3 i]; rfl]
  exact h1
theorem last_bad (w : World) (p : Value) (n : Int) (h : n < 0 ∨ 64 < n) :
    Calls Try.prog 23 #[p, .int .i64 n] w fun e w' => e = .returned (.tuple #[.slice none 0 0, .int .i64 1]) ∧ w = w' := by
  by_cases h1 : n < 0
  · clear h
    go_enter Try.func23, Try.ntmps23
    go_wp2
    go_ret2
    exact ⟨rfl, rfl⟩
  · have h2 : (64 : Int) < n := by omega
    clear h
    go_enter Try.func23, Try.ntmps23
    go_wp2
    go_ret2
    exact ⟨rfl, rfl⟩
def LaInv (w : World) (B : Nat) (T : TypeId) (l : List AccV) (k m : Nat) (sv nv : Value) (wr : World) : Prop :=
  ∃ i A c, i ≤ m ∧ nv = .int .i64 ((k - m + i : Nat) : Int) ∧ sv = .slice A i c ∧ OwnC wr B T 6 A i c (accCs (lastL l k m i)) ∧ Below B w wr
set_option maxHeartbeats 3200000 in
theorem last_ok (w : World) (b bw n : Nat) (ws : List Nat) (clk : Int) (k : Nat) (l : List AccV) (h : MachS w b bw n ws clk k (accCs l)) (hl : l.length = 64) (hk : k < 9223372036854775807) (x : Nat) (hx : x ≤ 64) (m : Nat) (hm : m = min x k) :
    Calls Try.prog 23 #[.pointer (some ⟨b, 0, none⟩), .int .i64 (x : Int)] w fun e w' => ∃ A c, e = .returned (.tuple #[.slice A m c, .int .i64 0]) ∧ OwnC w' w.heap.size 57 6 A m c (accCs (lastL l k m m)) ∧ Below w.heap.size w w' := by
  obtain ⟨i0, hi, hz0, hz1, hz2⟩ := info_parts acc_info
  have c2 := h.c2
  have hlt := h.blk.lt
  have HM := Lib.hid h
  have hm64 : m ≤ 64 := by omega
  have e0 : ¬ (x : Int) < 0 := by omega
  have e1 : ¬ (64 : Int) < (x : Int) := by omega
  clear h
  rcases Nat.lt_or_ge k x with hkx | hkx
  · obtain rfl : m = k := by omega
    have hkx2 : (m : Int) < (x : Int) := by omega
    clear hm
    go_enter Try.func23, Try.ntmps23
    go_wp2_with (refine wpList_make_own _ rfl (.const (.int .i64 0)) (.tmp 22) _ rfl w.heap.size 57 i0 _ 6 Try.underlying53 hi hz0 hz1 .i64 .i64 _ m rfl rfl rfl (by rw [hz2]; omega) (by unfold maxLen; omega) (Nat.le_refl _) ?_)
    intro w2 hown2 hgrow2
    have hb2 : Below w.heap.size w w2 := (Below.refl _ _).grown hgrow2 (Nat.le_refl _) (by simp)
    have HO2 : Hid (OwnC w2 w.heap.size 57 6 (some ⟨w.heap.size, 0, none⟩) 0 m []) := Lib.hid hown2
    have HB2 := Lib.hid hb2
    have d2 := (HM.out.off (S := []) (Off.of_below hb2) (by simp) (by simp)).c2
    have dl : b < w2.heap.size := Nat.lt_of_lt_of_le hlt hb2.size
    clear hown2 hgrow2 hb2 c2
    go_wp2
    go_loopw [6, 7] (fun sv nv wr => LaInv w w.heap.size 57 l m m sv nv wr) (fun _ nv _ => m - (intOf nv).toNat)
    case atStart => exact ⟨0, _, m, Nat.zero_le _, by first | rfl | (congr 1; omega), rfl, HO2.out, HB2.out⟩
    case round =>
      obtain ⟨i, A, c, hi2, rfl, rfl, hown, hbel⟩ := hrel
      clear HO2 HB2 d2 dl
      have hm5 := HM.out.off (S := []) (Off.of_below hbel) (by simp) (by simp)
      have d2 := hm5.c2
      have dl := hm5.blk.lt
      obtain ⟨t, ht⟩ : ∃ t, t = m - m + i := ⟨_, rfl⟩
      rw [← ht]
      have ht64 : t % 64 < 64 := Nat.mod_lt _ (by omega)
      have HT := Lib.hid ht
      have hq := fun j hj => hm5.acc hl (q := t % 64) (j := j) ht64 hj
      have hls := lastL_succ l m m i
      rw [← ht] at hls
      generalize l.getD (t % 64) noAcc = a at hq hls
      have q0 := hq 0 (by omega)
      have q1 := hq 1 (by omega)
      have q2 := hq 2 (by omega)
      have q3 := hq 3 (by omega)
      have q4 := hq 4 (by omega)
      have q5 := hq 5 (by omega)
      obtain ⟨a0, a1, a2, a3, a4, a5⟩ := a
      simp only [AccV.cells, List.getElem?_cons_zero, List.getElem?_cons_succ, Nat.add_zero] at q0 q1 q2 q3 q4 q5
      have HOWN := Lib.hid hown
      have HBEL := Lib.hid hbel
      have hbs := hbel.size
      clear hown hbel hm5 hq
      rcases Nat.lt_or_ge i m with hin | hin
      · have j1 : (t : Int) < (m : Int) := by omega
        clear ht
        have b4 := (Below.refl wr.heap.size wr).alloc (Nat.le_refl _) (.cells #[.int .i64 a0, .int .u8 a1, .int .i64 a2, .int .u64 a3, .int .u64 a4, .bool a5] 57)
        have HKT := Lib.hid (BlkL.new wr [.int .i64 a0, .int .u8 a1, .int .i64 a2, .int .u64 a3, .int .u64 a4, .bool a5] 57)
        have HO4 := Lib.hid (HOWN.out.below b4)
        have HB4 := Lib.hid (HBEL.out.trans (b4.mono hbs))
        clear b4
        go_wp2_with (refine wpList_append_row rfl (.tmp 38) (.tmp 46) 53 rfl w.heap.size 57 _ 6 48 Try.underlying53 acc_info rfl (by omega) A i c (accCs (lastL l m m i)) rfl HO4.out wr.heap.size 1 [.int .i64 a0, .int .u8 a1, .int .i64 a2, .int .u64 a3, .int .u64 a4, .bool a5] rfl rfl HKT.out.cell (by simp [Value.oneCell']) (by unfold maxLen; omega) (by omega) (by simp; omega) ?_)
        intro A2 c2 w5 ho5 hb6
        have ho6 : OwnC w5 w.heap.size 57 6 A2 (i + 1) c2 (accCs (lastL l m m (i + 1))) := by
          rw [hls, accCs_append]; exact ho5
        have HO6 := Lib.hid ho6
        have HB6 := Lib.hid (HB4.out.trans hb6)
        clear ho5 ho6 hb6 q0 q1 q2 q3 q4 q5
        go_wp2
        go_roundw
        case rel => exact ⟨i + 1, A2, c2, by omega, by rw [show m - m + (i + 1) = t + 1 by have := HT.out; omega]; go_num, rfl, HO6.out, HB6.out⟩
        case measure => have := HT.out; simp [intOf]; omega
      · obtain rfl : m = i := by omega
        have j1 : ¬ (t : Int) < (m : Int) := by omega
        clear ht
        clear q0 q1 q2 q3 q4 q5
        go_wp2
        go_ret2
        exact ⟨_, _, rfl, HOWN.out, HBEL.out⟩
  · obtain rfl : m = x := by omega
    have hkx2 : ¬ (k : Int) < (m : Int) := by omega
    have hkx3 : ¬ k < m := by omega
    clear hm
    go_enter Try.func23, Try.ntmps23
    go_wp2_with (refine wpList_make_own _ rfl (.const (.int .i64 0)) (.tmp 22) _ rfl w.heap.size 57 i0 _ 6 Try.underlying53 hi hz0 hz1 .i64 .i64 _ m rfl rfl rfl (by rw [hz2]; omega) (by unfold maxLen; omega) (Nat.le_refl _) ?_)
    intro w2 hown2 hgrow2
    have hb2 : Below w.heap.size w w2 := (Below.refl _ _).grown hgrow2 (Nat.le_refl _) (by simp)
    have HO2 : Hid (OwnC w2 w.heap.size 57 6 (some ⟨w.heap.size, 0, none⟩) 0 m []) := Lib.hid hown2
    have HB2 := Lib.hid hb2
    have d2 := (HM.out.off (S := []) (Off.of_below hb2) (by simp) (by simp)).c2
    have dl : b < w2.heap.size := Nat.lt_of_lt_of_le hlt hb2.size
    clear hown2 hgrow2 hb2 c2
    go_wp2
    go_loopw [6, 7] (fun sv nv wr => LaInv w w.heap.size 57 l k m sv nv wr) (fun _ nv _ => k - (intOf nv).toNat)
    case atStart => exact ⟨0, _, m, Nat.zero_le _, by first | rfl | (congr 1; omega), rfl, HO2.out, HB2.out⟩
    case round =>
      obtain ⟨i, A, c, hi2, rfl, rfl, hown, hbel⟩ := hrel
      clear HO2 HB2 d2 dl
      have hm5 := HM.out.off (S := []) (Off.of_below hbel) (by simp) (by simp)
      have d2 := hm5.c2
      have dl := hm5.blk.lt
      obtain ⟨t, ht⟩ : ∃ t, t = k - m + i := ⟨_, rfl⟩
      rw [← ht]
      have ht64 : t % 64 < 64 := Nat.mod_lt _ (by omega)
      have HT := Lib.hid ht
      have hq := fun j hj => hm5.acc hl (q := t % 64) (j := j) ht64 hj
      have hls := lastL_succ l k m i
      rw [← ht] at hls
      generalize l.getD (t % 64) noAcc = a at hq hls
      have q0 := hq 0 (by omega)
      have q1 := hq 1 (by omega)
      have q2 := hq 2 (by omega)
      have q3 := hq 3 (by omega)
      have q4 := hq 4 (by omega)
      have q5 := hq 5 (by omega)
      obtain ⟨a0, a1, a2, a3, a4, a5⟩ := a
      simp only [AccV.cells, List.getElem?_cons_zero, List.getElem?_cons_succ, Nat.add_zero] at q0 q1 q2 q3 q4 q5
      have HOWN := Lib.hid hown
      have HBEL := Lib.hid hbel
      have hbs := hbel.size
      clear hown hbel hm5 hq
      rcases Nat.lt_or_ge i m with hin | hin
      · have j1 : (t : Int) < (k : Int) := by omega
        clear ht
        have b4 := (Below.refl wr.heap.size wr).alloc (Nat.le_refl _) (.cells #[.int .i64 a0, .int .u8 a1, .int .i64 a2, .int .u64 a3, .int .u64 a4, .bool a5] 57)
        have HKT := Lib.hid (BlkL.new wr [.int .i64 a0, .int .u8 a1, .int .i64 a2, .int .u64 a3, .int .u64 a4, .bool a5] 57)
        have HO4 := Lib.hid (HOWN.out.below b4)
        have HB4 := Lib.hid (HBEL.out.trans (b4.mono hbs))
        clear b4
        go_wp2_with (refine wpList_append_row rfl (.tmp 38) (.tmp 46) 53 rfl w.heap.size 57 _ 6 48 Try.underlying53 acc_info rfl (by omega) A i c (accCs (lastL l k m i)) rfl HO4.out wr.heap.size 1 [.int .i64 a0, .int .u8 a1, .int .i64 a2, .int .u64 a3, .int .u64 a4, .bool a5] rfl rfl HKT.out.cell (by simp [Value.oneCell']) (by unfold maxLen; omega) (by omega) (by simp; omega) ?_)
        intro A2 c2 w5 ho5 hb6
        have ho6 : OwnC w5 w.heap.size 57 6 A2 (i + 1) c2 (accCs (lastL l k m (i + 1))) := by
          rw [hls, accCs_append]; exact ho5
        have HO6 := Lib.hid ho6
        have HB6 := Lib.hid (HB4.out.trans hb6)
        clear ho5 ho6 hb6 q0 q1 q2 q3 q4 q5
        go_wp2
        go_roundw
        case rel => exact ⟨i + 1, A2, c2, by omega, by rw [show k - m + (i + 1) = t + 1 by have := HT.out; omega]; go_num, rfl, HO6.out, HB6.out⟩
        case measure => have := HT.out; simp [intOf]; omega
      · obtain rfl : m = i := by omega
        have j1 : ¬ (t : Int) < (k : Int) := by omega
        clear ht
        clear q0 q1 q2 q3 q4 q5
        go_wp2
        go_ret2
        exact ⟨_, _, rfl, HOWN.out, HBEL.out⟩
end Go.Proofs.Ytddadlomkodgcaa
