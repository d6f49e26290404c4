/- Go's own words: the Real in memory; contracts: the atomic calls, Plain, isWord, Load, Swap, Clock, Tick. -/
import Derived.Test.YtddadlomkodgcaaMaJ
import Derived.Test.YtddadlomkodgcaaDcA
import Derived.Laws.LoneSync
namespace Go.Proofs.Ytddadlomkodgcaa
open Go.RowKit
set_option maxRecDepth 100000
set_option linter.unusedVariables false

structure RealS (w : World) (b bw n : Nat) (ws : List Nat) (clk : Int) : Prop where
  blk : BlkL w b [.slice (some ⟨bw, 0, none⟩) n n, .int .i64 clk]
  wd : BlkL w bw (ws.map U)
  len : ws.length = n
  ne : b ≠ bw
section
variable {w w' : World} {b bw n : Nat} {ws : List Nat} {clk : Int} {S : List Nat}
theorem RealS.off (h : RealS w b bw n ws clk) (hb : Off S w w') (h1 : b ∉ S) (h2 : bw ∉ S) : RealS w' b bw n ws clk := ⟨h.blk.off hb h1, h.wd.off hb h2, h.len, h.ne⟩
theorem RealS.c0 (h : RealS w b bw n ws clk) : w.cell? ⟨b, 0, none⟩ = some (.slice (some ⟨bw, 0, none⟩) n n) := h.blk.cell 0 _ rfl
theorem RealS.c1 (h : RealS w b bw n ws clk) : w.cell? ⟨b, 1, none⟩ = some (.int .i64 clk) := h.blk.cell 1 _ rfl
theorem RealS.wat (h : RealS w b bw n ws clk) {i : Nat} (hi : i < n) : w.cell? ⟨bw, i, none⟩ = some (.int .u64 (ws.getD i 0 : Nat)) := h.wd.cell i _ (by
  rw [List.getElem?_map, List.getElem?_eq_getElem (by rw [h.len]; exact hi)]; simp [List.getD_eq_getElem?_getD, h.len, hi])
theorem RealS.wf (h : RealS w b bw n ws clk) {i : Nat} (hi : i < n) : w.frozen? ⟨bw, i, none⟩ = false := h.wd.froz i (by simp [h.len]; omega)
theorem RealS.setClk (h : RealS w b bw n ws clk) (c' : Int) : RealS (w.setCell ⟨b, 1, none⟩ (.int .i64 c')) b bw n ws c' :=
  ⟨h.blk.set 1 (.int .i64 c') (by simp), h.wd.other b 1 _ h.ne, h.len, h.ne⟩
theorem RealS.setWord (h : RealS w b bw n ws clk) {i : Nat} (hi : i < n) (x : Nat) : RealS (w.setCell ⟨bw, i, none⟩ (.int .u64 (x : Int))) b bw n (ws.set i x) clk :=
  ⟨h.blk.other bw i _ (Ne.symm h.ne), by rw [List.map_set]; exact h.wd.set i _ (by simp [h.len]; omega), by simp [h.len], h.ne⟩
end

theorem aload_u (w : World) (b off : Nat) (x : Int) (hc : w.cell? ⟨b, off, none⟩ = some (.int .u64 x)) :
    Calls Try.prog 61 #[.pointer (some ⟨b, off, none⟩)] w fun e w' => e = .returned (.int .u64 x) ∧ w = w' := by
  have hl := run_call_load (P := Try.prog) Try.func74 (by kernel_rfl) (by kernel_rfl) (by kernel_rfl) .u64 (by kernel_rfl) hc
  go_enter Try.func61, Try.ntmps61
  go_wp2
  go_ret
  exact ⟨rfl, rfl⟩
theorem aload_i (w : World) (b off : Nat) (x : Int) (hc : w.cell? ⟨b, off, none⟩ = some (.int .i64 x)) :
    Calls Try.prog 66 #[.pointer (some ⟨b, off, none⟩)] w fun e w' => e = .returned (.int .i64 x) ∧ w = w' := by
  have hl := run_call_load (P := Try.prog) Try.func76 (by kernel_rfl) (by kernel_rfl) (by kernel_rfl) .i64 (by kernel_rfl) hc
  go_enter Try.func66, Try.ntmps66
  go_wp2
  go_ret
  exact ⟨rfl, rfl⟩
theorem acas_hit_u (w : World) (b off : Nat) (x y : Int) (hc : w.cell? ⟨b, off, none⟩ = some (.int .u64 x)) (hz : w.frozen? ⟨b, off, none⟩ = false) :
    Calls Try.prog 64 #[.pointer (some ⟨b, off, none⟩), .int .u64 x, .int .u64 y] w fun e w' => e = .returned (.bool true) ∧ w' = w.setCell ⟨b, off, none⟩ (.int .u64 y) := by
  have hl := run_call_cas_hit (P := Try.prog) Try.func75 (by kernel_rfl) (by kernel_rfl) (by kernel_rfl) .u64 (by kernel_rfl) (y := y) hc hz
  go_enter Try.func64, Try.ntmps64
  go_wp2
  go_ret
  exact ⟨rfl, rfl⟩
theorem acas_miss_u (w : World) (b off : Nat) (x o y : Int) (hc : w.cell? ⟨b, off, none⟩ = some (.int .u64 x)) (hz : w.frozen? ⟨b, off, none⟩ = false) (hne : ¬ x = o) :
    Calls Try.prog 64 #[.pointer (some ⟨b, off, none⟩), .int .u64 o, .int .u64 y] w fun e w' => e = .returned (.bool false) ∧ w' = w := by
  have hl := run_call_cas_miss (P := Try.prog) Try.func75 (by kernel_rfl) (by kernel_rfl) (by kernel_rfl) .u64 (by kernel_rfl) (o := o) (y := y) hc hz hne
  go_enter Try.func64, Try.ntmps64
  go_wp2
  go_ret
  exact ⟨rfl, rfl⟩
theorem acas_hit_i (w : World) (b off : Nat) (x y : Int) (hc : w.cell? ⟨b, off, none⟩ = some (.int .i64 x)) (hz : w.frozen? ⟨b, off, none⟩ = false) :
    Calls Try.prog 68 #[.pointer (some ⟨b, off, none⟩), .int .i64 x, .int .i64 y] w fun e w' => e = .returned (.bool true) ∧ w' = w.setCell ⟨b, off, none⟩ (.int .i64 y) := by
  have hl := run_call_cas_hit (P := Try.prog) Try.func77 (by kernel_rfl) (by kernel_rfl) (by kernel_rfl) .i64 (by kernel_rfl) (y := y) hc hz
  go_enter Try.func68, Try.ntmps68
  go_wp2
  go_ret
  exact ⟨rfl, rfl⟩
theorem au_info : (Try.prog.info? 132).map (fun i => (i.zero, i.size, i.bytes)) = some (some (.agg #[.int .u64 0]), 1, 8) := by kernel_rfl
theorem own_blk {w : World} {B g n c : Nat} {T : TypeId} {xs : List Value} (hn : 0 < n) (h : w.ownsRow B T 1 (.slice (some ⟨g, 0, none⟩) n c) n xs) : BlkL w g xs := by
  have hl := h.1
  refine ⟨?_, fun i v hv => ?_, fun i hi => ?_⟩
  · rcases h.2 with ⟨h1, h2⟩ | ⟨g', cap, cur, h1, h2, h3, h4⟩
    · cases h1
    · simp only [Value.slice.injEq, Option.some.injEq, Addr.mk.injEq] at h1
      obtain ⟨⟨rfl, _, _⟩, _⟩ := h1
      rcases Nat.lt_or_ge g w.heap.size with h | h
      · exact h
      · rw [Array.getElem?_eq_none h] at h3; cases h3
  · have := h.cells (g := g) rfl i v hv
    have e2 : (⟨g, 0, none⟩ : Addr).add i = ⟨g, i, none⟩ := by unfold Addr.add; split <;> simp_all
    rwa [e2] at this
  · exact h.frozenAt i
theorem plain_bad (w : World) (n : Int) (h : n < 1 ∨ 4096 < n) :
    Calls Try.prog 11 #[.int .i64 n] w fun e w' => e = .returned (.tuple #[.pointer none, .int .i64 1]) ∧ w = w' := by
  have HS := Lib.hid (isSize_any w n)
  have e : (decide (1 ≤ n) && decide (n ≤ 4096)) = false := by
    rcases h with h | h <;> simp <;> omega
  rw [e] at HS
  clear h e
  go_enter Try.func11, Try.ntmps11
  go_wp2_with fail
  with_reducible refine HS.out.mono ?_
  rintro e w1 ⟨rfl, hw⟩
  subst hw
  go_wp2
  go_ret2
  exact ⟨rfl, rfl⟩
set_option maxHeartbeats 1600000 in
theorem plain_ok (w : World) (n : Nat) (h1 : 1 ≤ n) (h2 : n ≤ 4096) :
    Calls Try.prog 11 #[.int .i64 (n : Int)] w fun e w' => ∃ b bw, e = .returned (.tuple #[.pointer (some ⟨b, 0, none⟩), .int .i64 0]) ∧ w.heap.size ≤ b ∧ w.heap.size ≤ bw ∧
      RealS w' b bw n (List.replicate n 0) 0 ∧ Below w.heap.size w w' := by
  have HS := Lib.hid (isSize_any w n)
  obtain ⟨i0, hi, hz0, hz1, hz2⟩ := info_parts au_info
  have e : (decide ((1 : Int) ≤ (n : Int)) && decide ((n : Int) ≤ 4096)) = true := by simp; omega
  rw [e] at HS
  clear e
  go_enter Try.func11, Try.ntmps11
  go_wp2_with fail
  with_reducible refine HS.out.mono ?_
  rintro e w1 ⟨rfl, hw⟩
  subst hw
  go_wp2_with (refine wpList_make_full _ rfl (.tmp 7) (.tmp 7) _ rfl w.heap.size 132 i0 (.agg #[.int .u64 0]) 1 Try.underlying98 hi hz0 hz1 .i64 .i64 _ _ n rfl rfl rfl rfl (by rw [hz2]; omega) (by unfold maxLen; omega) (Nat.le_refl _) ?_)
  intro w1 hown hgrow
  have hb1 : Below w.heap.size w w1 := (Below.refl _ _).grown hgrow (Nat.le_refl _) (by simp)
  have hk := own_blk (by omega) hown
  rw [made_eq, show (List.replicate n (Value.int .u64 0)).toArray.toList = List.replicate n (Value.int .u64 0) from rfl, rep_map] at hk
  have HK := Lib.hid hk
  have hlt := hk.lt
  have HB := Lib.hid hb1
  clear hown hgrow hk hb1
  go_wp2
  go_ret2
  refine ⟨w1.heap.size, w.heap.size, rfl, by omega, Nat.le_refl _, ⟨?_, HK.out.alloc _, by simp, by omega⟩, HB.out.alloc (by omega) _⟩
  exact BlkL.new w1 [.slice (some ⟨w.heap.size, 0, none⟩) n n, .int .i64 0] _
theorem risWord_nil (w : World) (i : Int) : Calls Try.prog 60 #[.pointer none, .int .i64 i] w fun e w' => e = .returned (.bool false) ∧ w = w' := by
  go_enter Try.func60, Try.ntmps60
  go_wp2
  go_ret
  exact ⟨rfl, rfl⟩
theorem risWord_any (w : World) (b : Nat) (A : Option Addr) (n : Nat) (i : Int) (hc : w.cell? ⟨b, 0, none⟩ = some (.slice A n n)) : Calls Try.prog 60 #[.pointer (some ⟨b, 0, none⟩), .int .i64 i] w fun e w' => e = .returned (.bool (inB i n)) ∧ w = w' := by
  have hp := isPlace_any
  go_enter Try.func60, Try.ntmps60
  go_wp2_with fail
  with_reducible refine (hp _ _ _).mono ?_
  rintro e w1 ⟨rfl, hw⟩
  subst hw
  go_wp2
  go_ret
  exact ⟨rfl, rfl⟩
/-- A pointer at which no number is a word, or this one isn't. -/
def NoWord (w : World) (p : Value) (who word : Int) : Prop := inB who 64 = false ∨ Calls Try.prog 60 #[p, .int .i64 word] w fun e w' => e = .returned (.bool false) ∧ w = w'
theorem rload_bad (w : World) (p : Value) (who word : Int) (h : NoWord w p who word) :
    Calls Try.prog 39 #[p, .int .i64 who, .int .i64 word] w fun e w' => e = .returned (.tuple #[.int .u64 0, .int .i64 1]) ∧ w = w' := by
  have HW := Lib.hid (isWho_any w who)
  rcases h1 : inB who 64 with _ | _
  · rw [h1] at HW
    clear h
    go_enter Try.func39, Try.ntmps39
    go_wp2_with fail
    with_reducible refine HW.out.mono ?_
    rintro e w1 ⟨rfl, hw⟩
    subst hw
    go_wp2
    go_ret2
    exact ⟨rfl, rfl⟩
  · rw [h1] at HW
    have HP := Lib.hid (h.resolve_left (by rw [h1]; decide))
    clear h
    go_enter Try.func39, Try.ntmps39
    go_wp2_with fail
    with_reducible refine HW.out.mono ?_
    rintro e w1 ⟨rfl, hw⟩
    subst hw
    go_wp2_with fail
    with_reducible refine HP.out.mono ?_
    rintro e w1 ⟨rfl, hw⟩
    subst hw
    go_wp2
    go_ret2
    exact ⟨rfl, rfl⟩
theorem rswap_bad (w : World) (p : Value) (who word old new : Int) (h : NoWord w p who word) :
    Calls Try.prog 41 #[p, .int .i64 who, .int .i64 word, .int .u64 old, .int .u64 new] w fun e w' => e = .returned (.tuple #[.bool false, .int .i64 1]) ∧ w = w' := by
  have HW := Lib.hid (isWho_any w who)
  rcases h1 : inB who 64 with _ | _
  · rw [h1] at HW
    clear h
    go_enter Try.func41, Try.ntmps41
    go_wp2_with fail
    with_reducible refine HW.out.mono ?_
    rintro e w1 ⟨rfl, hw⟩
    subst hw
    go_wp2
    go_ret2
    exact ⟨rfl, rfl⟩
  · rw [h1] at HW
    have HP := Lib.hid (h.resolve_left (by rw [h1]; decide))
    clear h
    go_enter Try.func41, Try.ntmps41
    go_wp2_with fail
    with_reducible refine HW.out.mono ?_
    rintro e w1 ⟨rfl, hw⟩
    subst hw
    go_wp2_with fail
    with_reducible refine HP.out.mono ?_
    rintro e w1 ⟨rfl, hw⟩
    subst hw
    go_wp2
    go_ret2
    exact ⟨rfl, rfl⟩
theorem rclock_bad (w : World) (p : Value) (who : Int) (h1 : inB who 64 = false) :
    Calls Try.prog 43 #[p, .int .i64 who] w fun e w' => e = .returned (.tuple #[.int .i64 0, .int .i64 1]) ∧ w = w' := by
  have HW := Lib.hid (isWho_any w who)
  rw [h1] at HW
  clear h1
  go_enter Try.func43, Try.ntmps43
  go_wp2_with fail
  with_reducible refine HW.out.mono ?_
  rintro e w1 ⟨rfl, hw⟩
  subst hw
  go_wp2
  go_ret2
  exact ⟨rfl, rfl⟩
theorem rclock_nil (w : World) (who : Int) (h1 : inB who 64 = true) :
    Calls Try.prog 43 #[.pointer none, .int .i64 who] w fun e w' => e = .returned (.tuple #[.int .i64 0, .int .i64 7]) ∧ w = w' := by
  have HW := Lib.hid (isWho_any w who)
  rw [h1] at HW
  clear h1
  go_enter Try.func43, Try.ntmps43
  go_wp2_with fail
  with_reducible refine HW.out.mono ?_
  rintro e w1 ⟨rfl, hw⟩
  subst hw
  go_wp2
  go_ret2
  exact ⟨rfl, rfl⟩
theorem rtick_bad (w : World) (p : Value) (t : Int) (h1 : isTick t = false) :
    Calls Try.prog 45 #[p, .int .i64 t] w fun e w' => e = .returned (.tuple #[.int .i64 0, .int .i64 1]) ∧ w = w' := by
  have HF := Lib.hid (tform_any w t)
  rw [h1] at HF
  clear h1
  go_enter Try.func45, Try.ntmps45
  go_wp2_with fail
  with_reducible refine HF.out.mono ?_
  rintro e w1 ⟨rfl, hw⟩
  subst hw
  go_wp2
  go_ret2
  exact ⟨rfl, rfl⟩
theorem rtick_nil (w : World) (t : Int) (h1 : isTick t = true) :
    Calls Try.prog 45 #[.pointer none, .int .i64 t] w fun e w' => e = .returned (.tuple #[.int .i64 0, .int .i64 7]) ∧ w = w' := by
  have HF := Lib.hid (tform_any w t)
  rw [h1] at HF
  clear h1
  go_enter Try.func45, Try.ntmps45
  go_wp2_with fail
  with_reducible refine HF.out.mono ?_
  rintro e w1 ⟨rfl, hw⟩
  subst hw
  go_wp2
  go_ret2
  exact ⟨rfl, rfl⟩
section
variable (w : World) (b bw n : Nat) (ws : List Nat) (clk : Int)
theorem rload_ok (h : RealS w b bw n ws clk) (who : Int) (j : Nat) (h1 : inB who 64 = true) (hj : j < n) :
    Calls Try.prog 39 #[.pointer (some ⟨b, 0, none⟩), .int .i64 who, .int .i64 (j : Int)] w fun e w' => e = .returned (.tuple #[.int .u64 (ws.getD j 0 : Nat), .int .i64 0]) ∧ w = w' := by
  have HW := Lib.hid (isWho_any w who)
  have HP := Lib.hid (risWord_any w b (some ⟨bw, 0, none⟩) n j h.c0)
  have h2 : inB (j : Int) (n : Int) = true := inB_iff.mpr (by omega)
  rw [h1] at HW
  rw [h2] at HP
  have c0 := h.c0
  have HA := Lib.hid (aload_u w bw j _ (h.wat hj))
  have hlt := h.blk.lt
  clear h h1 h2
  go_enter Try.func39, Try.ntmps39
  go_wp2_with fail
  with_reducible refine HW.out.mono ?_
  rintro e w1 ⟨rfl, hw⟩
  subst hw
  go_wp2_with fail
  with_reducible refine HP.out.mono ?_
  rintro e w1 ⟨rfl, hw⟩
  subst hw
  go_wp2_with fail
  with_reducible refine HA.out.mono ?_
  rintro e w1 ⟨rfl, hw⟩
  subst hw
  go_wp2
  go_ret2
  exact ⟨rfl, rfl⟩
theorem rswap_ok (h : RealS w b bw n ws clk) (who : Int) (j old new : Nat) (h1 : inB who 64 = true) (hj : j < n) :
    Calls Try.prog 41 #[.pointer (some ⟨b, 0, none⟩), .int .i64 who, .int .i64 (j : Int), .int .u64 (old : Int), .int .u64 (new : Int)] w fun e w' => e = .returned (.tuple #[.bool (decide (ws.getD j 0 = old)), .int .i64 0]) ∧
      RealS w' b bw n (if ws.getD j 0 = old then ws.set j new else ws) clk ∧ Off [b, bw] w w' := by
  have HW := Lib.hid (isWho_any w who)
  have HP := Lib.hid (risWord_any w b (some ⟨bw, 0, none⟩) n j h.c0)
  have h2 : inB (j : Int) (n : Int) = true := inB_iff.mpr (by omega)
  rw [h1] at HW
  rw [h2] at HP
  have c0 := h.c0
  have hlt := h.blk.lt
  have HH := Lib.hid h
  by_cases e : ws.getD j 0 = old
  · rw [if_pos e, decide_eq_true e]
    have ha := acas_hit_u w bw j _ (new : Int) (h.wat hj) (h.wf hj)
    rw [e] at ha
    have HA := Lib.hid ha
    clear h h1 h2 e ha
    go_enter Try.func41, Try.ntmps41
    go_wp2_with fail
    with_reducible refine HW.out.mono ?_
    rintro e w1 ⟨rfl, hw⟩
    subst hw
    go_wp2_with fail
    with_reducible refine HP.out.mono ?_
    rintro e w1 ⟨rfl, hw⟩
    subst hw
    go_wp2_with fail
    with_reducible refine HA.out.mono ?_
    rintro e w1 ⟨rfl, rfl⟩
    go_wp2
    go_ret2
    exact ⟨rfl, HH.out.setWord hj new, (Off.refl _ w).setCell (by simp) _⟩
  · rw [if_neg e, decide_eq_false e]
    have HA := Lib.hid (acas_miss_u w bw j _ (old : Int) (new : Int) (h.wat hj) (h.wf hj) (by omega))
    clear h h1 h2
    go_enter Try.func41, Try.ntmps41
    go_wp2_with fail
    with_reducible refine HW.out.mono ?_
    rintro e w1 ⟨rfl, hw⟩
    subst hw
    go_wp2_with fail
    with_reducible refine HP.out.mono ?_
    rintro e w1 ⟨rfl, hw⟩
    subst hw
    go_wp2_with fail
    with_reducible refine HA.out.mono ?_
    rintro e w1 ⟨rfl, rfl⟩
    go_wp2
    go_ret2
    exact ⟨rfl, HH.out, Off.refl _ _⟩
theorem rclock_ok (h : RealS w b bw n ws clk) (who : Int) (h1 : inB who 64 = true) :
    Calls Try.prog 43 #[.pointer (some ⟨b, 0, none⟩), .int .i64 who] w fun e w' => e = .returned (.tuple #[.int .i64 clk, .int .i64 0]) ∧ w = w' := by
  have HW := Lib.hid (isWho_any w who)
  rw [h1] at HW
  have HA := Lib.hid (aload_i w b 1 _ h.c1)
  clear h h1
  go_enter Try.func43, Try.ntmps43
  go_wp2_with fail
  with_reducible refine HW.out.mono ?_
  rintro e w1 ⟨rfl, hw⟩
  subst hw
  go_wp2_with fail
  with_reducible refine HA.out.mono ?_
  rintro e w1 ⟨rfl, hw⟩
  subst hw
  go_wp2
  go_ret2
  exact ⟨rfl, rfl⟩
set_option maxHeartbeats 1600000 in
theorem rtick_ok (h : RealS w b bw n ws clk) (t : Int) (hc : 0 ≤ clk ∧ clk ≤ 4611686018427387903) (ht : 0 ≤ t ∧ t ≤ 4611686018427387903) :
    Calls Try.prog 45 #[.pointer (some ⟨b, 0, none⟩), .int .i64 t] w fun e w' => e = .returned (.tuple #[.int .i64 (clampV (clk + t)), .int .i64 0]) ∧
      RealS w' b bw n ws (clampV (clk + t)) ∧ Off [b, bw] w w' := by
  have HF := Lib.hid (tform_any w t)
  rw [isTick_iff.mpr ht] at HF
  have HA := Lib.hid (tadd_ok w clk t hc ht)
  have HL := Lib.hid (aload_i w b 1 _ h.c1)
  have HS := Lib.hid (acas_hit_i w b 1 clk (clampV (clk + t)) h.c1 (h.blk.froz 1 (by simp)))
  have HH := Lib.hid h
  clear h
  generalize clampV (clk + t) = cl at *
  go_enter Try.func45, Try.ntmps45
  go_wp2_with fail
  with_reducible refine HF.out.mono ?_
  rintro e w1 ⟨rfl, hw⟩
  subst hw
  go_wp2
  go_loopw [] (fun wx => wx = w) (fun _ => 0)
  case atStart => rfl
  case round =>
    subst hrel
    go_wp2_with fail
    with_reducible refine HL.out.mono ?_
    rintro e w1 ⟨rfl, hw⟩
    subst hw
    go_wp2_with fail
    with_reducible refine HA.out.mono ?_
    rintro e w1 ⟨rfl, hw⟩
    subst hw
    go_wp2_with fail
    with_reducible refine HS.out.mono ?_
    rintro e w1 ⟨rfl, rfl⟩
    go_wp2
    go_ret2
    exact ⟨rfl, HH.out.setClk _, (Off.refl _ _).setCell (by simp) _⟩
end
end Go.Proofs.Ytddadlomkodgcaa
