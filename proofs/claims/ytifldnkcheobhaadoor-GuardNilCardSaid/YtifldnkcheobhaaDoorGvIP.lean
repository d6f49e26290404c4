/- guard: Strikes of any ring; the law's fixed question; GuardApart's mathematics -/
import Derived.Test.YtifldnkcheobhaaDoorGvH

/- guard: Strikes of any ring; Live of a ring that is off; the law's fixed question. -/
namespace Go.Proofs.YtifldnkcheobhaaDoor
open Go.RowKit
set_option maxRecDepth 100000
set_option linter.unusedVariables false
set_option linter.unusedSimpArgs false
set_option maxHeartbeats 4000000

section
variable {w : World} {B rb mb hc : Nat} {hA : Option Addr} {gs : List GH} {k : Int} {st : Nat → Int}
theorem find_any (h : RingX w B rb mb hA hc gs k (gs.map GH.nm) st) {i : Nat} {g : GH} (hg : gs[i]? = some g) (hn : g.nm.size ≤ 140737488351232) :
    Calls Tryd.prog 33 #[.pointer (some ⟨rb, 0, none⟩), .string g.nm] w fun e w' => e = .returned g.ptr ∧ w' = w := by
  have hi := (List.getElem?_eq_some_iff.1 hg).1
  have hlk := h.map.some_ (i := i) (nm := g.nm) (by rw [List.getElem?_map, hg]; rfl) hn
  have r0 := h.blk.cell 0 _ rfl
  have r1 := h.blk.cell 1 _ rfl
  obtain ⟨ab, ao, rfl, -, -, hcl, -⟩ := h.own.cell (by omega)
  have p0 := hcl i _ (by rw [List.getElem?_map, hg]; rfl)
  have hii : (i : Int) < (gs.length : Int) := by omega
  clear hcl h hg
  go_enter Tryd.func33, Tryd.ntmps33
  go_wp2
  go_ret
  exact ⟨rfl, rfl⟩
theorem strikes_any (h : RingX w B rb mb hA hc gs k (gs.map GH.nm) st) {i : Nat} {g : GH} (hg : gs[i]? = some g) (hn : g.nm.size ≤ 140737488351232) :
    Calls Tryd.prog 19 #[.pointer (some ⟨rb, 0, none⟩), .string g.nm] w fun e w' => e = .returned (.tuple #[.int .i64 (st i), .int .i64 0]) ∧ w' = w := by
  have HF := Lib.hid (find_any h hg hn)
  have h2 := (h.hks i g hg).1.cell 2 _ rfl
  clear h hg
  go_enter Tryd.func19, Tryd.ntmps19
  go_wp2_with fail
  with_reducible refine HF.out.mono ?_
  rintro e w' ⟨rfl, rfl⟩
  go_wp2
  go_ret2
  exact ⟨rfl, rfl⟩
theorem live_any (h : RingX w B rb mb hA hc gs k (gs.map GH.nm) st) (hoff : ∀ i, i < gs.length → ¬ st i < k) (hl : gs.length ≤ 32) :
    Calls Tryd.prog 23 #[.pointer (some ⟨rb, 0, none⟩)] w fun e w' => e = .returned (.slice none 0 0) ∧ ∃ n, w' = w.drewN n := by
  have r0 := h.blk.cell 0 _ rfl
  have HX := Lib.hid h
  have HOFF := Lib.hid hoff
  clear h hoff
  go_enter Tryd.func23, Tryd.ntmps23
  go_wp2_with fail
  go_loopw [3, 13] (fun lv iv wr => lv = .slice none 0 0 ∧ ∃ i : Nat, i ≤ gs.length ∧ iv = .int .i64 (i : Int) ∧ ∃ n, wr = w.drewN n) (fun _ iv _ => gs.length - (intOf iv).toNat)
  case atStart => exact ⟨rfl, 0, Nat.zero_le _, rfl, 0, rfl⟩
  case round =>
    obtain ⟨rfl, i, hi, rfl, n, rfl⟩ := hrel
    rcases Nat.lt_or_ge i gs.length with h1 | h1
    · have hii : (i : Int) < (gs.length : Int) := by omega
      have hi1 : IntKind.i64.wrap ((i : Int) + 1) = ((i + 1 : Nat) : Int) := by rw [IntWalk.i64_in _ (by omega)]; omega
      obtain ⟨g, hg⟩ : ∃ g, gs[i]? = some g := ⟨gs[i], List.getElem?_eq_getElem h1⟩
      obtain ⟨ab, ao, rfl, -, -, hcl, -⟩ := HX.out.own.cell (by omega)
      have p0 : (w.drewN n).cell? ⟨ab, ao + i, none⟩ = some g.ptr := hcl i _ (by rw [List.getElem?_map, hg]; rfl)
      have HON := Lib.hid (isOn_any (w.drewN n) rb g.hk _ _ _ g.nm k (st i) (HX.out.blk.drewN n) ((HX.out.hks i g hg).1.drewN n))
      have hd : decide (st i < k) = false := decide_eq_false (by have := HOFF.out i h1; omega)
      have HD := Lib.hid hd
      obtain ⟨wx, hwx⟩ : ∃ wx, w.drewN n = wx := ⟨_, rfl⟩
      have HWX := Lib.hid hwx
      rw [hwx] at HON p0 ⊢
      clear hcl hg hd hwx
      go_wp2_with fail
      with_reducible refine HON.out.mono ?_
      rintro e w6 ⟨rfl, rfl⟩
      rw [HD.out]
      go_wp2
      go_roundw
      case rel => first | exact ⟨rfl, i + 1, by omega, rfl, n + 1, by rw [← HWX.out]; rfl⟩ | exact ⟨trivial, i + 1, by omega, rfl, n + 1, by rw [← HWX.out]; rfl⟩
      case measure => simp [intOf]; omega
    · obtain rfl : i = gs.length := by omega
      have hii : ¬ (gs.length : Int) < (gs.length : Int) := by omega
      go_wp2
      go_ret
      exact ⟨rfl, n, rfl⟩
end
theorem aw_new : newV [⟨nmB, [[(15, 0)]]⟩] = 0 := by
  have hl : longB [[((15 : Nat), (0 : Int))]] = false := by rfl
  have hc : chkF [[((15 : Nat), (0 : Int))]] = 0 := by
    unfold chkF
    rw [if_neg (by rw [hl]; simp), if_neg (by simp), if_pos]
    intro i f x hf hx
    cases i with
    | zero => simp at hf; subst hf; simp at hx; subst hx; unfold ActOk; simp
    | succ i => simp at hf
  have hL : leastF [⟨nmB, [[(15, 0)]]⟩] = 0 := by simp [leastF, stepL, hc]
  unfold newV
  rw [if_neg (by simp), if_neg (by rw [hL]; simp), if_pos (by simp [nms]), if_pos]
  decide
theorem awake10_any {w0 w : World} (h0 : Lib0 w0) (hb : Below w0.heap.size w0 w) :
    Calls Tryd.prog 14 #[] w fun e w' => e = .returned (.bool true) ∧ Below w.heap.size w w' := by
  obtain ⟨Wa, hWa⟩ : ∃ W, ((w.alloc (.cells #[.int .u8 15, .int .i64 0] 24)).alloc (.cells #[.slice (some ⟨w.heap.size, 0, none⟩) 1 1] 33)).alloc (.cells #[.string nmB, .slice (some ⟨w.heap.size + 1, 0, none⟩) 1 1] 81) = W := ⟨_, rfl⟩
  have ha : BlkL Wa w.heap.size [.int .u8 15, .int .i64 0] := by rw [← hWa]; exact ((BlkL.new w [.int .u8 15, .int .i64 0] 24).alloc _).alloc _
  have hp : BlkL Wa (w.heap.size + 1) [.slice (some ⟨w.heap.size, 0, none⟩) 1 1] := by
    rw [← hWa]
    have := BlkL.new (w.alloc (.cells #[.int .u8 15, .int .i64 0] 24)) [.slice (some ⟨w.heap.size, 0, none⟩) 1 1] 33
    rw [World.size_alloc] at this
    exact this.alloc _
  have hh : BlkL Wa (w.heap.size + 1 + 1) [.string nmB, .slice (some ⟨w.heap.size + 1, 0, none⟩) 1 1] := by
    rw [← hWa]
    have := BlkL.new ((w.alloc (.cells #[.int .u8 15, .int .i64 0] 24)).alloc (.cells #[.slice (some ⟨w.heap.size, 0, none⟩) 1 1] 33)) [.string nmB, .slice (some ⟨w.heap.size + 1, 0, none⟩) 1 1] 81
    rw [World.size_alloc, World.size_alloc] at this
    exact this
  have bWa : Below w.heap.size w Wa := by
    rw [← hWa]
    exact (((Below.refl w.heap.size w).alloc (by simp <;> omega) _).alloc (by simp <;> omega) _).alloc (by simp <;> omega) _
  have hq : ProgQ Wa Wa.heap.size (.slice (some ⟨w.heap.size + 1, 0, none⟩) 1 1) [[(15, 0)]] := ProgQ.of_blk (c := 1) (fs := [(w.heap.size, [(15, 0)])]) hp (fun q hq => by simp at hq; subst hq; exact ⟨ha, ha.lt⟩) hp.lt
  have hpo : ProgOk [[((15 : Nat), (0 : Int))]] := AllOk.progOk (by simp [AllOk, ActOk]) (by simp) (by simp)
  have hks : HksQ Wa Wa.heap.size (.slice (some ⟨w.heap.size + 1 + 1, 0, none⟩) 1 1) [⟨nmB, [[(15, 0)]]⟩] := by
    refine ⟨_, 1, rfl, (fun e => by cases e), fun a ha => ?_⟩
    injection ha with ha
    subst ha
    refine ⟨rfl, hh.lt, fun i x hx => ?_⟩
    cases i with
    | zero => simp at hx; subst hx; exact ⟨hh.cell 0 _ rfl, _, hh.cell 1 _ rfl, hq⟩
    | succ i => simp at hx
  have HNW := Lib.hid (new_any Wa Wa.heap.size _ [⟨nmB, [[(15, 0)]]⟩] 1 hks (Nat.le_refl _) (fun x hx => by simp at hx; subst hx; exact hpo.range) (by simp) (fun x hx => by simp at hx; subst hx; decide) (by omega))
  rw [aw_new] at HNW
  have HBW := Lib.hid bWa
  have hW0 := hb.trans (bWa.mono hb.size)
  have HW0 := Lib.hid hW0
  clear ha hp hh bWa hq hks hb hW0
  go_enter Tryd.func14, Tryd.ntmps14
  go_wp2_with fail
  with_reducible refine HNW.out.mono ?_
  rintro e w1 ⟨v, rfl, hNP, hb1⟩
  rcases hNP with ⟨h, -⟩ | ⟨-, rb, mb, hA, hc, gs, rfl, hX, hgs⟩
  · exact absurd aw_new h
  obtain ⟨g, rfl⟩ := List.length_eq_one_iff.1 (show gs.length = 1 by have := congrArg List.length hgs; simpa using this)
  simp only [List.map_cons, List.map_nil, List.cons.injEq, and_true, HookV.mk.injEq] at hgs
  obtain ⟨hg1, hg2⟩ := hgs
  have HFI := Lib.hid (Fire_any h0 (HW0.out.trans (hb1.mono HW0.out.size)) hX (HW0.out.size) (fun x hx => by simp at hx; subst hx; rw [hg2]; exact hpo) (fun i => by omega) (by simp))
  have HB1 := Lib.hid hb1
  have HG1 := Lib.hid hg1
  have HG2 := Lib.hid hg2
  have HX := Lib.hid hX
  clear hX hb1 hg1 hg2
  go_wp2_with fail
  with_reducible refine HFI.out.mono ?_
  rintro e w2 ⟨A', c', m, rfl, ⟨rs, rfl, hR, hrs⟩, hX2, hof⟩
  have hov : outV [[((15 : Nat), (0 : Int))]] = (15, 0) := by rfl
  have hfv : firesV [g] (fun _ => 0) 1 [g].length = [repV g.nm g.p 0 1] := rfl
  rw [hfv] at hrs
  obtain ⟨R, rfl⟩ := List.length_eq_one_iff.1 (show rs.length = 1 by have := congrArg List.length hrs; simpa using this)
  simp only [List.map_cons, List.map_nil, List.cons.injEq, and_true] at hrs
  have hcl : R.r.cls = 15 := by rw [hrs]; show (outV g.p).1 = 15; rw [HG2.out, hov]
  have hst : stN g.p 0 = 1 := by rw [HG2.out]; rfl
  have hoff : R.r.off = true := by rw [hrs]; show (!decide (stN g.p 0 < 1)) = true; rw [hst]; rfl
  obtain ⟨ab, ao, rfl, -, -, hcel, -⟩ := hR.1.cell (by simp)
  have c2 := hcel 2 (.int .u8 15) (by simp [FRp, RpM.cells, hcl])
  have c4 := hcel 4 (.bool true) (by simp [FRp, RpM.cells, hoff])
  have hs0 : afterV [g] (fun _ => 0) 1 [g].length 0 = 1 := by
    show hitV [g] (fun _ => 0) 1 0 = 1
    show (if (0 : Int) < 1 then stN g.p 0 else 0) = 1
    rw [if_pos (by omega), hst]
  have HS := Lib.hid (strikes_any (i := 0) (g := g) hX2 rfl (by rw [HG1.out]; decide))
  rw [hs0, HG1.out] at HS
  have HL := Lib.hid (live_any hX2 (fun i hi => by simp at hi; subst hi; rw [hs0]; omega) (by simp))
  have HB2 : Hid (Below w.heap.size w w2) := Lib.hid (by
    have b1 := HBW.out.trans (HB1.out.mono HBW.out.size)
    exact b1.trans (hof.below b1.size (fun x hx => by obtain ⟨y, hy, rfl⟩ := List.mem_map.1 hx; exact Nat.le_trans HBW.out.size (HX.out.sep y hy).1)))
  have hlen1 : [R].length = 1 := rfl
  rw [hlen1]
  clear hR hrs hX2 hof hcel hcl hst hoff hs0 hfv hov hlen1
  go_wp2_with fail
  with_reducible refine HS.out.mono ?_
  rintro e w3 ⟨rfl, rfl⟩
  go_wp2_with fail
  with_reducible refine HL.out.mono ?_
  rintro e w4 ⟨rfl, n, rfl⟩
  have HB4 : Hid (Below w.heap.size w (w3.drewN n)) := Lib.hid (below_drewN HB2.out n)
  go_wp2
  go_ret
  exact ⟨rfl, HB4.out⟩
end Go.Proofs.YtifldnkcheobhaaDoor


/- GuardApart: the mathematics. -/
namespace Go.Proofs.YtifldnkcheobhaaDoor
open Go.RowKit
set_option maxRecDepth 100000
set_option linter.unusedVariables false
set_option linter.unusedSimpArgs false
set_option maxHeartbeats 4000000

theorem umod (x : Int) (m : Nat) (h0 : 0 < m) (hm : m < 1000000) : ∃ (s t : Nat), IntKind.u64.wrap x = (s : Int) ∧ Int.tmod (s : Int) (m : Int) = (t : Int) ∧ t < m ∧ IntKind.u64.wrap (t : Int) = (t : Int) ∧ IntKind.i64.wrap (t : Int) = (t : Int) := by
  obtain ⟨s, hs⟩ : ∃ s : Nat, x % 18446744073709551616 = (s : Int) := ⟨(x % 18446744073709551616).toNat, by omega⟩
  have hlt : s % m < m := Nat.mod_lt _ h0
  refine ⟨s, s % m, by rw [IntKind.wrap_u64]; exact hs, ?_, hlt, IntWalk.u64_in _ (by omega), IntWalk.i64_in _ (by omega)⟩
  rw [Int.tmod_eq_emod_of_nonneg (by omega)]
  exact (Int.natCast_emod s m).symm
/-- The strikes ahead of round n. -/
def stA (gs : List GH) (k n : Nat) : Nat → Int := fun i =>
  match gs[i]? with
  | some g => if badV g.p = true then ((min (n - 1) k : Nat) : Int) else 0
  | none => 0
theorem stA_one (gs : List GH) (k : Nat) : stA gs k 1 = fun _ => 0 := by
  funext i
  unfold stA
  cases gs[i]? with
  | none => rfl
  | some g => simp
theorem stA_nonneg (gs : List GH) (k n i : Nat) (hk : k ≤ 1000) : 0 ≤ stA gs k n i ∧ stA gs k n i ≤ 1000000 := by
  unfold stA
  cases gs[i]? with
  | none => simp
  | some g => simp only; split <;> omega
theorem after_A (gs : List GH) (k n : Nat) (hk : 1 ≤ k) (hn : 1 ≤ n) : afterV gs (stA gs k n) (k : Int) gs.length = stA gs k (n + 1) := by
  funext i
  unfold afterV
  rcases Nat.lt_or_ge i gs.length with h | h
  · rw [if_pos h]
    obtain ⟨g, hg⟩ : ∃ g, gs[i]? = some g := ⟨gs[i], List.getElem?_eq_getElem h⟩
    unfold hitV stA
    rw [hg]
    simp only
    unfold stN
    by_cases hb : badV g.p = true
    · simp only [hb, if_true]
      split <;> omega
    · have hb' : badV g.p = false := by simpa using hb
      simp only [hb', Bool.false_eq_true, if_false]
      split <;> rfl
  · rw [if_neg (by omega)]
    unfold stA
    rw [List.getElem?_eq_none h]
/-- What round n tells of a hook. -/
theorem fire_A (gs : List GH) (k n i : Nat) (hk : 1 ≤ k) (hn : 1 ≤ n) (g : GH) (hg : gs[i]? = some g) :
    (badV g.p = true ∧ k < n → fireV gs (stA gs k n) (k : Int) i = []) ∧ (¬ (badV g.p = true ∧ k < n) → fireV gs (stA gs k n) (k : Int) i = [⟨g.nm, (runP g.p).st.marks, (outV g.p).1, (outV g.p).2, badV g.p && decide (n = k)⟩]) := by
  unfold fireV stA
  rw [hg]
  simp only
  by_cases hb : badV g.p = true
  · simp only [hb, if_true, true_and, Bool.true_and]
    refine ⟨fun h => if_neg (by omega), fun h => ?_⟩
    rw [if_pos (by omega)]
    have e : (!decide (stN g.p ((min (n - 1) k : Nat) : Int) < (k : Int))) = decide (n = k) := by
      unfold stN
      rw [if_pos hb]
      rw [Bool.eq_iff_iff]
      simp
      omega
    unfold repV
    rw [e]
  · have hb' : badV g.p = false := by simpa using hb
    simp only [hb', Bool.false_eq_true, if_false, false_and, not_false_eq_true, Bool.false_and]
    refine ⟨fun h => h.elim, fun _ => ?_⟩
    rw [if_pos (by omega)]
    have e : (!decide (stN g.p 0 < (k : Int))) = false := by
      unfold stN
      rw [if_neg hb]
      simp
      omega
    unfold repV
    rw [e]
theorem fires_at (gs : List GH) (st : Nat → Int) (k : Int) (i : Nat) (r : RepC) (h : fireV gs st k i = [r]) : ∀ m, i < m → (firesV gs st k m)[(firesV gs st k i).length]? = some r := by
  intro m hm
  induction m with
  | zero => omega
  | succ m ih =>
    rw [firesV_succ]
    by_cases e : i = m
    · subst e
      rw [h]
      simp
    · have := ih (by omega)
      rw [List.getElem?_append_left (List.getElem?_eq_some_iff.1 this).1]
      exact this
theorem fires_mono (gs : List GH) (st : Nat → Int) (k : Int) (i : Nat) : ∀ m, i ≤ m → (firesV gs st k i).length ≤ (firesV gs st k m).length := by
  intro m hm
  induction m with
  | zero => obtain rfl : i = 0 := by omega
            exact Nat.le_refl _
  | succ m ih =>
    by_cases e : i = m + 1
    · subst e; exact Nat.le_refl _
    · rw [firesV_succ, List.length_append]
      have := ih (by omega)
      omega
theorem fires_le (gs : List GH) (st : Nat → Int) (k : Int) : ∀ m, (firesV gs st k m).length ≤ m := by
  intro m
  induction m with
  | zero => simp [firesV]
  | succ m ih =>
    rw [firesV_succ, List.length_append]
    have : (fireV gs st k m).length ≤ 1 := by
      unfold fireV
      split
      · split <;> simp
      · simp
    omega
theorem bad_iff (p : List (List ActV)) : badV p = ((((outV p).1 : Nat) : Int) != 0) := by
  unfold badV
  rw [Bool.eq_iff_iff]
  simp
end Go.Proofs.YtifldnkcheobhaaDoor
