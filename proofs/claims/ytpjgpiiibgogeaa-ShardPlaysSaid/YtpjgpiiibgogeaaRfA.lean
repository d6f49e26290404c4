/- Contracts of the document's map: Find, Value. -/
import Derived.Test.YtpjgpiiibgogeaaNiA
namespace Go.Proofs.Ytpjgpiiibgogeaa
open Go.RowKit
set_option maxRecDepth 100000
set_option linter.unusedVariables false

theorem srt_find {l : List Ent} {ks : List Nat} (h : srtK l) {i : Nat} (hi : i < l.length) (he : orderV (l.getD i noE).1 ks = 0) : plK l ks = i ∧ hasK l ks = true := by
  have hp : plK l ks = i := plK_eq (by omega) (fun j hj => by
    have := srt_lt h hj hi
    rw [orderV_zero he] at this
    exact this) (fun _ => by omega)
  refine ⟨hp, ?_⟩
  unfold hasK
  rw [hp, he, decide_eq_true hi]; rfl
theorem srt_none {l : List Ent} {ks : List Nat} (h : ∀ i, i < l.length → orderV (l.getD i noE).1 ks ≠ 0) : hasK l ks = false := by
  unfold hasK
  rcases Nat.lt_or_ge (plK l ks) l.length with hl | hl
  · rw [decide_eq_true hl, Bool.true_and]
    simpa using h _ hl
  · rw [decide_eq_false (by omega)]; rfl
def findV (l : List Ent) (ks : List Nat) : Int := if hasK l ks = true then (plK l ks : Int) else -1

set_option maxHeartbeats 3200000 in
theorem find14_any (w : World) (B B' : Nat) (S : List Nat) (A A' : Option Addr) (n c m d : Nat) (es : List KV) (ks : List Nat) (h : VerA w B S A n c es) (h' : Arg w B' A' m d ks) (ho : srtK (es.map KV.ent)) (hn : n ≤ 1000000) (hB : B ≤ w.heap.size) (hB' : B' ≤ w.heap.size) :
    Calls Try.prog 70 #[.slice A n c, .slice A' m d] w fun e w' => e = .returned (.int .i64 (findV (es.map KV.ent) ks)) ∧ Below w.heap.size w w' := by
  have hl := h.len
  have hle := h.arg.le
  have hcap := h.arg.cap
  unfold maxLen at hcap
  have HS := Lib.hid ho
  have HV := Lib.hid h
  have HE := Lib.hid (fun i (hi : i < n) => ent_at es i (by omega))
  have HL : Hid ((es.map KV.ent).length = n) := Lib.hid (by rw [List.length_map, hl])
  have HF := Lib.hid (fun (wr : World) (hb : Below w.heap.size w wr) i (hi : i < n) => rorder_any wr B B' (es.getD i noKV).A A' (es.getD i noKV).n (es.getD i noKV).c m d _ ks ((h.key _ (kv_mem (by omega))).1.below (hb.mono hB)) (h'.below (hb.mono hB')))
  generalize es.map KV.ent = l at *
  clear h h' ho hl
  go_enter Try.func70, Try.ntmps70
  go_wp2
  go_loopw [9] (fun iv wr => ∃ i : Nat, i ≤ n ∧ iv = .int .i64 (i : Int) ∧ (∀ j, j < i → orderV (l.getD j noE).1 ks ≠ 0) ∧ Below w.heap.size w wr) (fun iv _ => n - (intOf iv).toNat)
  case atStart => exact ⟨0, Nat.zero_le _, rfl, fun j hj => absurd hj (by omega), Below.refl _ _⟩
  case round =>
    obtain ⟨i, hi, rfl, h1, hbw⟩ := hrel
    rcases Nat.lt_or_ge i n with hlt | hge
    · obtain ⟨g, off, rfl, hgB, hc0, hc1⟩ := (HV.out.below (hbw.mono hB)).at_ (i := i) hlt
      have hee := HE.out i hlt
      have hb2 : Below w.heap.size w (wr.alloc (.cells #[.slice (es.getD i noKV).A (es.getD i noKV).n (es.getD i noKV).c, .int .i64 (es.getD i noKV).v] 155)) := hbw.alloc hbw.size _
      have HX := Lib.hid (HF.out _ hb2 i hlt)
      have HBW := Lib.hid hb2
      have HH := Lib.hid h1
      have i0 : (0 : Int) ≤ (i : Int) := by omega
      have i1 : (i : Int) < (n : Int) := by omega
      have ho : orderV (l.getD i noE).1 ks = orderV (es.getD i noKV).zs ks := by rw [hee]
      have HO := Lib.hid ho
      clear h1 hee hb2 hbw ho
      generalize es.getD i noKV = x at *
      obtain ⟨xA, xn, xc, xz, xv⟩ := x
      simp only at hc0 hc1 HX HBW HO
      generalize orderV xz ks = o at *
      have HX2 : Hid (Calls Try.prog 92 #[.slice xA xn xc, .slice A' m d] (wr.alloc (.cells #[.slice xA xn xc, .int .i64 xv] 155)) fun e w' => e = .returned (.int .i64 o) ∧ Below w.heap.size w w') := Lib.hid (HX.out.mono fun e w' ⟨he, t, ht⟩ => ⟨he, by rw [ht]; exact below_drews HBW.out t⟩)
      clear HX
      rcases hz : (o == 0) with _ | _
      · have hz2 : (o == 0) = false := hz
        go_wp2_with fail
        with_reducible refine (HX2.out).mono ?_
        rintro e w1 ⟨rfl, hb1⟩
        have HB1 := Lib.hid hb1
        clear hb1
        go_wp2
        go_roundw
        case rel => exact ⟨i + 1, by omega, by go_num, fun j hj => by
          rcases Nat.lt_or_ge j i with h | h
          · exact HH.out j h
          · obtain rfl : j = i := by omega
            rw [HO.out]; simpa using hz2, HB1.out⟩
        case measure => simp [intOf]; omega
      · have hz2 : o = 0 := by simpa using hz
        have hf := srt_find HS.out (i := i) (by rw [HL.out]; exact hlt) (by rw [HO.out]; exact hz2)
        have HFV : Hid (findV l ks = (i : Int)) := Lib.hid (by unfold findV; rw [if_pos hf.2, hf.1])
        clear hf hz2
        go_wp2_with fail
        with_reducible refine (HX2.out).mono ?_
        rintro e w1 ⟨rfl, hb1⟩
        have HB1 := Lib.hid hb1
        clear hb1
        go_wp2
        go_ret
        exact ⟨by rw [HFV.out]; rfl, HB1.out⟩
    · obtain rfl : i = n := by omega
      have i1 : ¬ (i : Int) < (i : Int) := by omega
      have HFV : Hid (findV l ks = -1) := Lib.hid (by unfold findV; rw [srt_none (fun j hj => h1 j (by rw [HL.out] at hj; exact hj))]; rfl)
      have HB1 := Lib.hid hbw
      clear h1 hbw
      go_wp2
      go_ret
      exact ⟨by rw [HFV.out]; rfl, HB1.out⟩
theorem value14_any (w : World) (B B' : Nat) (S : List Nat) (A A' : Option Addr) (n c m d : Nat) (es : List KV) (ks : List Nat) (h : VerA w B S A n c es) (h' : Arg w B' A' m d ks) (ho : srtK (es.map KV.ent)) (hn : n ≤ 1000000) (hB : B ≤ w.heap.size) (hB' : B' ≤ w.heap.size) :
    Calls Try.prog 73 #[.slice A n c, .slice A' m d] w fun e w' => e = .returned (.int .i64 (if hasK (es.map KV.ent) ks = true then ((es.map KV.ent).getD (plK (es.map KV.ent) ks) noE).2 else 0)) ∧ Below w.heap.size w w' := by
  have HF := Lib.hid (find14_any w B B' S A A' n c m d es ks h h' ho hn hB hB')
  rcases hh : hasK (es.map KV.ent) ks with _ | _
  · rw [findV, hh] at HF
    simp only [Bool.false_eq_true, if_false] at HF ⊢
    clear h h' ho
    go_enter Try.func73, Try.ntmps73
    go_wp2_with fail
    with_reducible refine (HF.out).mono ?_
    rintro e w1 ⟨rfl, hb1⟩
    have HB1 := Lib.hid hb1
    clear hb1
    go_wp2
    go_ret
    exact ⟨rfl, HB1.out⟩
  · have hp := (has_key hh).1
    have hl := h.len
    rw [List.length_map, hl] at hp
    rw [findV, hh] at HF
    simp only [if_true] at HF ⊢
    rw [ent_at es _ (by omega)]
    have HV := Lib.hid h
    have hle := h.arg.le
    have hcap := h.arg.cap
    unfold maxLen at hcap
    generalize plK (es.map KV.ent) ks = p at *
    have i0 : (0 : Int) ≤ (p : Int) := by omega
    have i1 : (p : Int) < (n : Int) := by omega
    obtain ⟨g, off, rfl, hgB, _, _⟩ := h.at_ hp
    clear h h' ho hl
    go_enter Try.func73, Try.ntmps73
    go_wp2_with fail
    with_reducible refine (HF.out).mono ?_
    rintro e w1 ⟨rfl, hb1⟩
    obtain ⟨g', off', hA, _, _, hc1⟩ := (HV.out.below (hb1.mono hB)).at_ hp
    cases hA
    have HB1 := Lib.hid hb1
    clear hb1
    go_wp2
    go_ret
    exact ⟨rfl, HB1.out⟩
end Go.Proofs.Ytpjgpiiibgogeaa
