/- Contracts of package gcra: areTicks, check, Decide, Left, Idle. -/
import Derived.Test.YtnkecjjfbllgdaaGdec
import Derived.Test.YtnkecjjfbllgdaaInts
namespace Go.Proofs.Ytnkecjjfbllgdaa
open Go.RowKit
set_option maxRecDepth 100000

theorem all_take_succ {xs : List Int} {k : Nat} (hk : k < xs.length) (h : (xs.take k).all isTick = true) (h2 : isTick (xs.getD k 0) = true) : (xs.take (k + 1)).all isTick = true := by
  rw [List.take_succ_eq_append_getElem hk, List.all_append, h]
  rw [List.getD_eq_getElem?_getD, List.getElem?_eq_getElem hk] at h2
  simpa using h2
theorem all_not {xs : List Int} {k : Nat} (hk : k < xs.length) (h2 : isTick (xs.getD k 0) = false) : xs.all isTick = false := by
  rw [List.getD_eq_getElem?_getD, List.getElem?_eq_getElem hk] at h2
  rw [List.all_eq_false]
  exact ⟨xs[k], List.getElem_mem hk, by simpa using h2⟩

set_option maxHeartbeats 400000 in
theorem areTicks_any (w : World) (B : Nat) (A : Option Addr) (n c : Nat) (xs : List Int) (h : ArgI w B A n c xs) :
    Calls Try.prog 102 #[.slice A n c] w fun e w' => e = .returned (.bool (xs.all isTick)) ∧ w = w' := by
  have hl := h.len
  have hle := h.le
  have hcap := h.cap
  unfold maxLen at hcap
  go_enter Try.func102, Try.ntmps102
  go_wp2
  go_loop [7] (fun i => ∃ k : Nat, k ≤ n ∧ i = .int .i64 k ∧ (xs.take k).all isTick = true) (fun i => n - (intOf i).toNat)
  case atStart => exact ⟨0, Nat.zero_le _, rfl, by simp⟩
  case round =>
    obtain ⟨k, hk, rfl, ha⟩ := hrel
    rcases Nat.lt_or_ge k n with hlt | hge
    · obtain ⟨b, off, rfl, _, hc⟩ := h.at_ (by omega)
      have hk1 := hc k hlt
      rcases ht : isTick (xs.getD k 0) with _ | _
      · have HF := Lib.hid (fun w => tform_any w (xs.getD k 0))
        rw [ht] at HF
        have HV := Lib.hid (all_not (by omega) ht)
        clear hc ht ha h
        generalize xs.getD k 0 = d at *
        go_wp2_with fail
        refine (HF.out _).mono ?_
        rintro e w1 ⟨rfl, rfl⟩
        go_wp2
        go_ret
        exact ⟨ret_bool HV.out.symm, rfl⟩
      · have HF := Lib.hid (fun w => tform_any w (xs.getD k 0))
        rw [ht] at HF
        have HV := Lib.hid (all_take_succ (by omega) ha ht)
        clear hc ht ha h
        generalize xs.getD k 0 = d at *
        go_wp2_with fail
        refine (HF.out _).mono ?_
        rintro e w1 ⟨rfl, rfl⟩
        go_wp2
        go_round
        case rel => exact ⟨k + 1, by omega, by go_num, HV.out⟩
        case measure => simp [intOf]; omega
    · have HV : Hid (xs.all isTick = true) := Lib.hid (by rw [List.take_of_length_le (by omega)] at ha; exact ha)
      clear ha h
      go_wp2
      go_ret
      exact ⟨ret_bool HV.out.symm, rfl⟩

/-- What check answers. -/
def chkV (T Tau : Int) (xs : List Int) : Int := if xs.all isTick = true then checkV T Tau else 1
set_option maxHeartbeats 400000 in
theorem gcheck_any (w : World) (T Tau : Int) (B : Nat) (A : Option Addr) (n c : Nat) (xs : List Int) (h : ArgI w B A n c xs) (hB : B ≤ w.heap.size) :
    Calls Try.prog 89 #[.agg #[.int .i64 T, .int .i64 Tau], .slice A n c] w fun e w' => e = .returned (.int .i64 (chkV T Tau xs)) ∧ Below w.heap.size w w' := by
  have HA := Lib.hid (areTicks_any _ w.heap.size A n c xs ((h.more hB).below ((Below.refl _ w).alloc (Nat.le_refl _) (.cells #[.int .i64 T, .int .i64 Tau] 50))))
  have HC := Lib.hid (fun w => checkP_any w T Tau)
  have HV : Hid (chkV T Tau xs = if xs.all isTick = true then checkV T Tau else 1) := Lib.hid rfl
  clear h
  rcases ht : xs.all isTick with _ | _
  · rw [ht] at HA HV
    clear ht
    go_enter Try.func89, Try.ntmps89
    go_wp2_with fail
    refine HA.out.mono ?_
    rintro e w1 ⟨rfl, rfl⟩
    go_wp2
    go_ret
    exact ⟨by rw [HV.out]; rfl, (Below.refl _ _).alloc (Nat.le_refl _) _⟩
  · rw [ht] at HA HV
    clear ht
    go_enter Try.func89, Try.ntmps89
    go_wp2_with fail
    refine HA.out.mono ?_
    rintro e w1 ⟨rfl, rfl⟩
    go_wp2_with fail
    refine (HC.out _).mono ?_
    rintro e w1 ⟨rfl, hb⟩
    have HB := Lib.hid hb
    clear hb
    go_wp2
    go_ret
    exact ⟨by rw [HV.out]; rfl, ((Below.refl _ _).alloc (Nat.le_refl _) _).trans (HB.out.mono (by simp))⟩

theorem chkV_cases (T Tau : Int) (xs : List Int) : chkV T Tau xs = 0 ∨ chkV T Tau xs = 1 := by unfold chkV; split; exact checkV_cases T Tau; exact .inr rfl
theorem chkV_zero {T Tau : Int} {xs : List Int} (h : chkV T Tau xs = 0) : 1 ≤ T ∧ T ≤ 4611686018427387903 ∧ 0 ≤ Tau ∧ Tau ≤ 4611686018427387903 ∧ ∀ x ∈ xs, 0 ≤ x ∧ x ≤ 4611686018427387903 := by
  unfold chkV at h
  split at h
  · rename_i ha
    have := checkV_zero h
    exact ⟨this.1, this.2.1, this.2.2.1, this.2.2.2, fun x hx => isTick_iff.1 (List.all_eq_true.1 ha x hx)⟩
  · omega
/-- A slice that a call lays out of three, or two numbers. -/
theorem ints_lit (w : World) (xs : List Int) (n : Nat) (hn : xs.length = n) (hm : n ≤ 1000) : ArgI (w.alloc (.cells (xs.map V64).toArray 2)) (w.heap.size + 1) (some ⟨w.heap.size, 0, none⟩) n n xs := by
  have := (OwnI.lit w xs hn (by unfold maxLen; omega)).arg
  simpa using this

theorem gcheck_three (W : World) (b : Nat) (T Tau x y z : Int) (hb : b = W.heap.size) :
    Calls Try.prog 89 #[.agg #[.int .i64 T, .int .i64 Tau], .slice (some ⟨b, 0, none⟩) 3 3] (W.alloc (.cells #[.int .i64 x, .int .i64 y, .int .i64 z] 2)) fun e w' => e = .returned (.int .i64 (chkV T Tau [x, y, z])) ∧ Below (W.heap.size + 1) (W.alloc (.cells #[.int .i64 x, .int .i64 y, .int .i64 z] 2)) w' := by
  subst hb
  have := gcheck_any (W.alloc (.cells #[.int .i64 x, .int .i64 y, .int .i64 z] 2)) T Tau (W.heap.size + 1) (some ⟨W.heap.size, 0, none⟩) 3 3 [x, y, z] (ints_lit W [x, y, z] 3 rfl (by omega)) (by simp)
  simpa using this
theorem gcheck_two (W : World) (b : Nat) (T Tau x y : Int) (hb : b = W.heap.size) :
    Calls Try.prog 89 #[.agg #[.int .i64 T, .int .i64 Tau], .slice (some ⟨b, 0, none⟩) 2 2] (W.alloc (.cells #[.int .i64 x, .int .i64 y] 2)) fun e w' => e = .returned (.int .i64 (chkV T Tau [x, y])) ∧ Below (W.heap.size + 1) (W.alloc (.cells #[.int .i64 x, .int .i64 y] 2)) w' := by
  subst hb
  have := gcheck_any (W.alloc (.cells #[.int .i64 x, .int .i64 y] 2)) T Tau (W.heap.size + 1) (some ⟨W.heap.size, 0, none⟩) 2 2 [x, y] (ints_lit W [x, y] 2 rfl (by omega)) (by simp)
  simpa using this

/-- What Decide answers. -/
def ddecV (T Tau tat now n : Int) : Value :=
  if chkV T Tau [tat, now, n] = 0 then .tuple #[decV T.toNat Tau.toNat tat.toNat now.toNat n.toNat, .int .i64 0]
  else .tuple #[.agg #[.bool false, .int .i64 0, .int .i64 0, .int .i64 0], .int .i64 1]

set_option maxHeartbeats 1600000 in
theorem gDecide_bad (w : World) (T Tau tat now n : Int) (hc : chkV T Tau [tat, now, n] = 1) :
    Calls Try.prog 73 #[.agg #[.int .i64 T, .int .i64 Tau], .int .i64 tat, .int .i64 now, .int .i64 n] w (ValEnd w (.tuple #[.agg #[.bool false, .int .i64 0, .int .i64 0, .int .i64 0], .int .i64 1])) := by
  have HC := Lib.hid (fun W b hb => gcheck_three W b T Tau tat now n hb)
  rw [hc] at HC
  clear hc
  go_enter Try.func73, Try.ntmps73
  go_wp2_with fail
  refine (HC.out _ _ (by simp)).mono ?_
  rintro e w1 ⟨rfl, hb⟩
  have br := ((BlkL.new (w.alloc (.cells #[.int .i64 T, .int .i64 Tau] 50)) [.bool false, .int .i64 0, .int .i64 0, .int .i64 0] 123).alloc (.cells #[.int .i64 tat, .int .i64 now, .int .i64 n] 2)).below (by simpa using hb)
  simp only [World.size_alloc] at br
  have HB1 := Lib.hid ((((Below.refl w.heap.size w).alloc (Nat.le_refl _) _).alloc (by simp) _).alloc (by simp; omega) _ |>.trans (hb.mono (by simp; omega)))
  clear hb
  have r0 := br.cell 0 _ rfl
  have r1 := br.cell 1 _ rfl
  have r2 := br.cell 2 _ rfl
  have r3 := br.cell 3 _ rfl
  have g0 := br.froz 0 (by simp)
  have g1 := br.froz 1 (by simp)
  have g2 := br.froz 2 (by simp)
  have g3 := br.froz 3 (by simp)
  have HR1 := Lib.hid br
  clear br
  go_wp2
  have bz := HR1.out.put4 (.bool false) (.int .i64 0) (.int .i64 0) (.int .i64 0)
  have z0 := bz.cell 0 _ rfl
  have z1 := bz.cell 1 _ rfl
  have z2 := bz.cell 2 _ rfl
  have z3 := bz.cell 3 _ rfl
  have hbz := below_put4 HB1.out (b := w.heap.size + 1) (by omega) (.bool false) (.int .i64 0) (.int .i64 0) (.int .i64 0)
  clear bz r0 r1 r2 r3 g0 g1 g2 g3
  exact bodyPost_ret (v := .tuple #[.agg #[.bool false, .int .i64 0, .int .i64 0, .int .i64 0], .int .i64 1]) (by simp [results, Try.results73, go_sem, z0, z1, z2, z3]) rfl ⟨rfl, hbz⟩

set_option maxHeartbeats 1600000 in
theorem gDecide_good (w : World) (T Tau tat now n : Nat) (hc : chkV (T : Int) (Tau : Int) [(tat : Int), (now : Int), (n : Int)] = 0) :
    Calls Try.prog 73 #[.agg #[.int .i64 (T : Int), .int .i64 (Tau : Int)], .int .i64 (tat : Int), .int .i64 (now : Int), .int .i64 (n : Int)] w (ValEnd w (.tuple #[decV T Tau tat now n, .int .i64 0])) := by
  have hz := chkV_zero hc
  have q1 := hz.2.2.2.2 (tat : Int) (by simp)
  have q2 := hz.2.2.2.2 (now : Int) (by simp)
  have q3 := hz.2.2.2.2 (n : Int) (by simp)
  have HD := Lib.hid (fun w => gdecide_any w T Tau tat now n (by omega) (by omega) (by omega) (by omega) (by omega) (by omega))
  unfold decV at HD
  have HV : Hid (decV T Tau tat now n = AnsV (grB T Tau tat now n) (tatV T Tau tat now n) (wtV T Tau tat now n) (leftV T Tau (tatV T Tau tat now n) now)) := Lib.hid rfl
  generalize leftV T Tau (tatV T Tau tat now n) now = l2 at *
  generalize tatV T Tau tat now n = t2 at *
  generalize wtV T Tau tat now n = x at *
  generalize grB T Tau tat now n = gb at *
  have HC := Lib.hid (fun W b hb => gcheck_three W b (T : Int) (Tau : Int) (tat : Int) (now : Int) (n : Int) hb)
  rw [hc] at HC
  clear hc hz q1 q2 q3
  go_enter Try.func73, Try.ntmps73
  go_wp2_with fail
  refine (HC.out _ _ (by simp)).mono ?_
  rintro e w1 ⟨rfl, hb⟩
  have bl := (((BlkL.new w [.int .i64 (T : Int), .int .i64 (Tau : Int)] 50).alloc (.cells #[.bool false, .int .i64 0, .int .i64 0, .int .i64 0] 123)).alloc (.cells #[.int .i64 (tat : Int), .int .i64 (now : Int), .int .i64 (n : Int)] 2)).below (by simpa using hb)
  have br := ((BlkL.new (w.alloc (.cells #[.int .i64 (T : Int), .int .i64 (Tau : Int)] 50)) [.bool false, .int .i64 0, .int .i64 0, .int .i64 0] 123).alloc (.cells #[.int .i64 (tat : Int), .int .i64 (now : Int), .int .i64 (n : Int)] 2)).below (by simpa using hb)
  simp only [World.size_alloc] at bl br
  have HB1 := Lib.hid ((((Below.refl w.heap.size w).alloc (Nat.le_refl _) _).alloc (by simp) _).alloc (by simp; omega) _ |>.trans (hb.mono (by simp; omega)))
  clear hb
  have c0 := bl.cell 0 _ rfl
  have c1 := bl.cell 1 _ rfl
  have HR1 := Lib.hid br
  clear bl br
  go_wp2_with fail
  refine (HD.out _).mono ?_
  rintro e w2 ⟨rfl, hb⟩
  have br := HR1.out.below hb
  have HB2 := Lib.hid (HB1.out.trans (hb.mono HB1.out.size))
  clear hb c0 c1
  have r0 := br.cell 0 _ rfl
  have r1 := br.cell 1 _ rfl
  have r2 := br.cell 2 _ rfl
  have r3 := br.cell 3 _ rfl
  have g0 := br.froz 0 (by simp)
  have g1 := br.froz 1 (by simp)
  have g2 := br.froz 2 (by simp)
  have g3 := br.froz 3 (by simp)
  have HR2 := Lib.hid br
  clear br
  go_wp2
  have bz := HR2.out.put4 (.bool gb) (.int .i64 (t2 : Int)) (.int .i64 (x : Int)) (.int .i64 (l2 : Int))
  have z0 := bz.cell 0 _ rfl
  have z1 := bz.cell 1 _ rfl
  have z2 := bz.cell 2 _ rfl
  have z3 := bz.cell 3 _ rfl
  have hbz := below_put4 HB2.out (b := w.heap.size + 1) (by omega) (.bool gb) (.int .i64 (t2 : Int)) (.int .i64 (x : Int)) (.int .i64 (l2 : Int))
  clear bz r0 r1 r2 r3 g0 g1 g2 g3
  exact bodyPost_ret (v := .tuple #[.agg #[.bool gb, .int .i64 (t2 : Int), .int .i64 (x : Int), .int .i64 (l2 : Int)], .int .i64 0]) (by simp [results, Try.results73, go_sem, z0, z1, z2, z3]) rfl ⟨by rw [HV.out], hbz⟩

theorem gDecide_any (w : World) (T Tau tat now n : Int) :
    Calls Try.prog 73 #[.agg #[.int .i64 T, .int .i64 Tau], .int .i64 tat, .int .i64 now, .int .i64 n] w (ValEnd w (ddecV T Tau tat now n)) := by
  unfold ddecV
  rcases chkV_cases T Tau [tat, now, n] with hc | hc
  · rw [if_pos hc]
    have hz := chkV_zero hc
    have q1 := hz.2.2.2.2 tat (by simp)
    have q2 := hz.2.2.2.2 now (by simp)
    have q3 := hz.2.2.2.2 n (by simp)
    have h := gDecide_good w T.toNat Tau.toNat tat.toNat now.toNat n.toNat (by rw [Int.toNat_of_nonneg (by omega), Int.toNat_of_nonneg (by omega), Int.toNat_of_nonneg (by omega), Int.toNat_of_nonneg (by omega), Int.toNat_of_nonneg (by omega)]; exact hc)
    rw [Int.toNat_of_nonneg (by omega), Int.toNat_of_nonneg (by omega), Int.toNat_of_nonneg (by omega), Int.toNat_of_nonneg (by omega), Int.toNat_of_nonneg (by omega)] at h
    exact h
  · rw [if_neg (by omega)]
    exact gDecide_bad w T Tau tat now n hc
end Go.Proofs.Ytnkecjjfbllgdaa
