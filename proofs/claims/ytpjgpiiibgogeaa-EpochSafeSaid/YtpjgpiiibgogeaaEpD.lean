/- slices.Delete of a worker's row, from the front. -/
import Derived.Test.YtpjgpiiibgogeaaEpA
import Derived.Test.YtpjgpiiibgogeaaShC
import Derived.Deep.RegionLaw
import Derived.BigRegion
import Derived.Lib.SliceRun
import Derived.Laws.OwnMore
namespace Go.Proofs.Ytpjgpiiibgogeaa
open Go.RowKit
set_option maxRecDepth 100000
set_option linter.unusedVariables false

theorem given_info : (Try.prog.info? TG).map (fun i => (i.zero, i.size, i.bytes)) = some (some (.agg #[.int .i64 0, .int .i64 0]), 2, 16) := by kernel_rfl
theorem given_zero (w : World) : (zeroValue TG).run Try.prog w = .ok (.agg #[.int .i64 0, .int .i64 0]) w := by rfl
theorem GVs_drop (gs : List (Int × Nat)) (n : Nat) : (GVs gs).drop (n * 2) = GVs (gs.drop n) := by
  induction gs generalizing n with
  | nil => simp [GVs]
  | cons a l ih =>
    cases n with
    | zero => simp
    | succ n =>
      rw [show (n + 1) * 2 = n * 2 + 1 + 1 by omega]
      have := ih n
      simp only [GVs, GVc, List.flatMap_cons, List.cons_append, List.nil_append, List.drop_succ_cons] at *
      exact this
/-- A list laid over another one, from a place on. -/
def layL (xs : List Value) : Nat → List Value → List Value
  | _, [] => xs
  | o, v :: r => layL (xs.set o v) (o + 1) r
theorem layL_len (xs : List Value) (o : Nat) (vs : List Value) : (layL xs o vs).length = xs.length := by
  induction vs generalizing xs o with
  | nil => rfl
  | cons v r ih => rw [layL, ih]; simp
theorem layL_out (xs : List Value) (o : Nat) (vs : List Value) (j : Nat) (h : j < o ∨ o + vs.length ≤ j) : (layL xs o vs)[j]? = xs[j]? := by
  induction vs generalizing xs o with
  | nil => rfl
  | cons v r ih =>
    simp only [List.length_cons] at h
    rw [layL, ih _ _ (by omega), List.getElem?_set_ne (by omega)]
theorem layL_in (xs : List Value) (o : Nat) (vs : List Value) (j : Nat) (h : j < vs.length) (hx : o + vs.length ≤ xs.length) : (layL xs o vs)[o + j]? = vs[j]? := by
  induction vs generalizing xs o j with
  | nil => simp at h
  | cons v r ih =>
    simp only [List.length_cons] at h hx
    cases j with
    | zero =>
      rw [layL, layL_out _ _ _ _ (by omega), Nat.add_zero, List.getElem?_set_self (by omega)]; rfl
    | succ j =>
      rw [layL, show o + (j + 1) = o + 1 + j by omega, ih _ _ _ (by omega) (by simp; omega)]; rfl
theorem own_cells {B k n c g : Nat} {T : TypeId} (vs : List Value) : ∀ {w : World} {cs : List Value} (o : Nat) (h : OwnC w B T k (some ⟨g, 0, none⟩) n c cs), OwnC (w.setCells g o vs) B T k (some ⟨g, 0, none⟩) n c (layL cs o vs) ∧ Off [g] w (w.setCells g o vs) := by
  induction vs with
  | nil => intro w cs o h; exact ⟨h, Off.refl _ _⟩
  | cons v r ih =>
    intro w cs o h
    have h1 : OwnC (w.setCell ⟨g, o, none⟩ v) B T k (some ⟨g, 0, none⟩) n c (cs.set o v) := (World.ownsRow.stored h o v).1
    obtain ⟨h2, h3⟩ := ih (o + 1) h1
    exact ⟨h2, ((Off.refl [g] w).setCell (p := ⟨g, o, none⟩) (by simp) v).trans h3⟩
theorem own_short {w : World} {B k n c g m : Nat} {T : TypeId} {cs : List Value} (h : OwnC w B T k (some ⟨g, 0, none⟩) n c cs) (hm : m ≤ n) : OwnC w B T k (some ⟨g, 0, none⟩) m c (cs.take (m * k)) := by
  have hmul : m * k ≤ n * k := Nat.mul_le_mul_right k hm
  refine ⟨by rw [List.length_take, h.1]; omega, ?_⟩
  rcases h.2 with ⟨h1, h2⟩ | ⟨g', cap, cur, h1, h2, h3, h4, h5, h6, h7⟩
  · injection h1 with h1; cases h1
  · injection h1 with h1 h1' h1''
    cases h1
    refine .inr ⟨g, cap, cur, by rw [h1''], h2, h3, by omega, h5, h6, ?_⟩
    rw [← h7, List.take_take, Nat.min_eq_left hmul]
theorem run_clear2 (w : World) (ty : TypeId) (b o n c : Nat) (hn : 0 < n)
    (hc : ∀ j, j < n * 2 → (w.cell? ⟨b, o + j, none⟩).isSome = true) (hf : ∀ j, j < n * 2 → w.frozen? ⟨b, o + j, none⟩ = false) :
    (Builtin.clear_ #[121] ty #[.slice (some ⟨b, o, none⟩) n c]).run Try.prog w = .ok (.tuple #[]) (w.setCells b o (Builtin.zeroCells #[.int .i64 0, .int .i64 0] n).toList) := by
  have hl : (Builtin.zeroCells #[.int .i64 0, .int .i64 0] n).toList.length = n * 2 := by simp [Builtin.zeroCells]
  have h1 : ∀ v ∈ (Builtin.zeroCells #[.int .i64 0, .int .i64 0] n).toList, v.oneCell' = true := by
    intro v hv
    simp only [Builtin.zeroCells, Array.toList_map, List.mem_map] at hv
    obtain ⟨i, _, rfl⟩ := hv
    have h2 : i % 2 = 0 ∨ i % 2 = 1 := by omega
    show (#[Value.int .i64 0, .int .i64 0][i % 2]!).oneCell' = true
    rcases h2 with e | e <;> rw [e] <;> rfl
  have hst := run_storeCells_cells (P := Try.prog) b o (Builtin.zeroCells #[.int .i64 0, .int .i64 0] n).toList 0 w (by rw [hl]; simpa using hc) (by rw [hl]; simpa using hf) h1
  simp only [Nat.add_zero] at hst
  obtain ⟨m, rfl⟩ : ∃ m, n = m + 1 := ⟨n - 1, by omega⟩
  have hz := given_zero
  have hzc : (Value.agg #[.int .i64 0, .int .i64 0]).cells = #[.int .i64 0, .int .i64 0] := rfl
  simp [Builtin.clear_, run_underlying Try.underlying121, hz, hzc, hst]
theorem delete_none (w : World) (A : Option Addr) (L c : Nat) (hc : L ≤ c) (hc2 : c ≤ maxLen) :
    Calls Try.prog 107 #[.slice A L c, .int .i64 0, .int .i64 0] w fun e w' => e = .returned (.slice A L c) ∧ w = w' := by
  have hc3 : (L : Int) ≤ (c : Int) := by omega
  go_enter Try.func107, Try.ntmps107
  go_wp2
  all_goals
    go_ret
    exact ⟨rfl, rfl⟩
set_option maxHeartbeats 4000000 in
theorem delete_some (w : World) (B g L c n : Nat) (gs : List (Int × Nat)) (h : OwnC w B TG 2 (some ⟨g, 0, none⟩) L c (GVs gs)) (hn1 : 1 ≤ n) (hn : n ≤ L) (hL : L ≤ 4096) (hc2 : c ≤ maxLen) (hLc : L ≤ c) :
    Calls Try.prog 107 #[.slice (some ⟨g, 0, none⟩) L c, .int .i64 0, .int .i64 (n : Int)] w fun e w' => e = .returned (.slice (some ⟨g, 0, none⟩) (L - n) c) ∧ OwnC w' B TG 2 (some ⟨g, 0, none⟩) (L - n) c (GVs (gs.drop n)) ∧ Off [g] w w' := by
  have hlen : (GVs gs).length = L * 2 := h.1
  have hgl : gs.length = L := by rw [GVs_len] at hlen; omega
  obtain ⟨i0, hi0, hz0, hz1, hz2⟩ := info_parts given_info
  obtain ⟨news, hnews⟩ : ∃ news, news = (GVs gs).drop (n * 2) := ⟨_, rfl⟩
  have hnl : news.length = (L - n) * 2 := by rw [hnews, List.length_drop, hlen]; omega
  have hd : OwnC w.drew B TG 2 (some ⟨g, 0, none⟩) L c (GVs gs) := h.drewN 1
  have hcell := World.ownsRow.cellAt hd
  have hfroz := World.ownsRow.frozenAt hd
  obtain ⟨A, hA, hsrc⟩ : ∃ A : Addr, (if c = n then some (⟨g, 0, none⟩ : Addr) else some ⟨g, n * 2, none⟩) = some A ∧ Hid (∀ t u, news[t]? = some u → w.drew.cell? (A.add t) = some u) := by
    by_cases e : c = n
    · refine ⟨⟨g, 0, none⟩, by simp [e], fun t u hu => ?_⟩
      have h0 : news.length = 0 := by rw [hnl]; omega
      rw [List.length_eq_zero_iff.1 h0] at hu
      simp at hu
    · refine ⟨⟨g, n * 2, none⟩, by simp [e], fun t u hu => ?_⟩
      have ht : t < (L - n) * 2 := by
        have := (List.getElem?_eq_some_iff.1 hu).1
        rwa [hnl] at this
      have ea : (⟨g, n * 2, none⟩ : Addr).add t = ⟨g, n * 2 + t, none⟩ := by unfold Addr.add; split <;> simp_all
      rw [ea, hcell (n * 2 + t) (by omega)]
      rw [hnews, List.getElem?_drop] at hu
      exact hu
  have s1 : Hid (news.length = (L - n) * 2) := hnl
  have s2 : Hid (∀ u ∈ news, u.oneCell' = true) := by
    intro u hu
    rw [hnews] at hu
    exact GVs_one gs u (List.mem_of_mem_drop hu)
  have s3 : Hid (∀ t, t < news.length → (w.drew.cell? ⟨g, 0 + 0 * 2 + t, none⟩).isSome = true ∧ w.drew.frozen? ⟨g, 0 + 0 * 2 + t, none⟩ = false) := by
    intro t ht
    rw [hnl] at ht
    have e0 : 0 + 0 * 2 + t = t := by omega
    rw [e0]
    refine ⟨?_, hfroz t⟩
    rw [hcell t (by omega), List.getElem?_eq_getElem (by rw [hlen]; omega)]; rfl
  obtain ⟨W1, hW1⟩ : ∃ W1, W1 = w.drew.setCells g (0 + 0 * 2) news := ⟨_, rfl⟩
  obtain ⟨h1, hf1⟩ := own_cells news (0 + 0 * 2) hd
  rw [← hW1] at h1 hf1
  have hcell1 := World.ownsRow.cellAt h1
  have hfroz1 := World.ownsRow.frozenAt h1
  have hcl : ∀ ty, (Builtin.clear_ #[121] ty #[.slice (some ⟨g, (L - n) * 2, none⟩) (L - (L - n)) (c - (L - n))]).run Try.prog W1 = .ok (.tuple #[]) (W1.setCells g ((L - n) * 2) (Builtin.zeroCells #[.int .i64 0, .int .i64 0] (L - (L - n))).toList) := fun ty => by
    refine run_clear2 W1 ty g ((L - n) * 2) (L - (L - n)) (c - (L - n)) (by omega) (fun j hj => ?_) (fun j hj => hfroz1 _)
    rw [hcell1 _ (by omega), List.getElem?_eq_getElem (by rw [layL_len, hlen]; omega)]; rfl
  obtain ⟨h2, hf2⟩ := own_cells (Builtin.zeroCells #[.int .i64 0, .int .i64 0] (L - (L - n))).toList ((L - n) * 2) h1
  have hz : (Builtin.zeroCells #[.int .i64 0, .int .i64 0] (L - (L - n))).toList.length = (L - (L - n)) * 2 := by simp [Builtin.zeroCells]
  have h3 := own_short h2 (m := L - n) (by omega)
  have hfin : (layL (layL (GVs gs) (0 + 0 * 2) news) ((L - n) * 2) (Builtin.zeroCells #[.int .i64 0, .int .i64 0] (L - (L - n))).toList).take ((L - n) * 2) = GVs (gs.drop n) := by
    apply List.ext_getElem?
    intro j
    have hdl : (GVs (gs.drop n)).length = (L - n) * 2 := by rw [GVs_len, List.length_drop, hgl]
    rcases Nat.lt_or_ge j ((L - n) * 2) with hj | hj
    · rw [List.getElem?_take_of_lt hj, layL_out _ _ _ _ (.inl hj)]
      have := layL_in (GVs gs) (0 + 0 * 2) news j (by omega) (by omega)
      rw [show 0 + 0 * 2 + j = j by omega] at this
      rw [this, hnews]
      rw [GVs_drop]
    · rw [List.getElem?_eq_none (by rw [List.length_take, layL_len, layL_len, hlen]; omega), List.getElem?_eq_none (by omega)]
  rw [hfin] at h3
  have HFIN := Lib.hid (And.intro h3 (((Off.of_below (S := [g]) (Below.refl _ _).drew).trans hf1).trans hf2))
  have hW : Hid (W1 = w.drew.setCells g (0 + 0 * 2) news) := hW1
  have hnc : n ≤ c := by omega
  have hnI : (n : Int) ≤ (L : Int) := by omega
  have hn0 : ¬ (0 : Int) = (n : Int) := by omega
  have hLn : (L - n : Nat) ≤ c := by omega
  clear hW1 h1 h2 h3 hf1 hf2 hcell hfroz hcell1 hfroz1 hfin hnews h hd
  go_enter Try.func107, Try.ntmps107
  go_wp2_with fail
  go_region_law (refine step_append_room rfl (.tmp 22) (.tmp 25) 121 rfl TG i0 2 Try.underlying121 hi0 hz1 g 0 0 c (by simp [Act.eval, Act.put]) A (L - n) (c - n) news (by simp [Act.eval, Act.put]) s1.out hsrc.out s2.out (by omega) s3.out ?_; rw [← hW.out])
  go_wp2
  go_ret
  exact ⟨rfl, HFIN.out⟩
end Go.Proofs.Ytpjgpiiibgogeaa
