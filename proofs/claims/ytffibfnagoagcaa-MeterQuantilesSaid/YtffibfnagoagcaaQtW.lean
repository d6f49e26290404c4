/- The law MeterQuantiles: its walk. -/
import Derived.Test.YtffibfnagoagcaaQtE
import Derived.Test.YtffibfnagoagcaaMetOf
import Derived.Deep.RegionWith
import Derived.OpenShut
namespace Go.Proofs.Ytffibfnagoagcaa
open Go.RowKit
set_option maxRecDepth 100000
set_option linter.unusedVariables false

set_option maxHeartbeats 1600000 in
theorem meterQuantiles_w (A : Option Addr) (n c : Nat) (xs : List Nat) (q : Nat) (w : World) (h : ArgU w w.heap.size A n c xs) (hn : c ≤ 17592186043904) (hq : q ≤ 18446744073709551615) :
    Calls Try.prog 7 #[.slice A n c, .int .u64 (q : Int)] w (ValEnd w (.bool true)) := by
  have hle := h.le
  have HA := Lib.hid h
  have HXL := Lib.hid h.len
  have HFT := Lib.hid h.fit
  clear h
  obtain ⟨i0, hi, hz0, hz1, hz2⟩ := info_parts f64_info
  go_enter Try.func7, Try.ntmps7
  go_wp2_with fail
  refine (awake8_any _).mono ?_
  rintro e w1 ⟨rfl, hb1⟩
  have HB1 := Lib.hid hb1
  have HL1 := Lib.hid (all_any w1 A n c xs (by
    have := HA.out.below hb1
    exact ⟨this.len, this.le, this.cap, this.fit, fun h0 => by obtain ⟨b, off, e, hb, hc⟩ := this.at_ h0; exact ⟨b, off, e, Nat.lt_of_lt_of_le hb hb1.size, hc⟩⟩) (by omega))
  clear hb1
  go_wp2_with fail
  with_reducible refine HL1.out.mono ?_
  rintro e w2 ⟨A1, c1, rfl, ho1, hb2⟩
  have HB2 := Lib.hid (HB1.out.trans (hb2.mono HB1.out.size))
  have HO1 := Lib.hid ((ho1.mono HB1.out.size).below ((Below.refl w2.heap.size w2).alloc (Nat.le_refl _) (.cells #[.float .f64 4635118810238550016, .float .f64 4635189178982727680] TF64)))
  have KP := Lib.hid (BlkL.new w2 [.float .f64 4635118810238550016, .float .f64 4635189178982727680] TF64)
  have hz2s := HB2.out.size
  clear ho1 hb2 HL1 HB1
  go_wp2_with (refine wpList_append_v Try.underlying43 hi hz0 hz1 hz2 rfl rfl (.tmp 15) (.tmp 16) rfl rfl HO1.out w2.heap.size 2 2 [.float .f64 4635118810238550016, .float .f64 4635189178982727680] rfl rfl KP.out (fun u hu => by
      simp only [List.mem_cons, List.not_mem_nil, or_false] at hu; rcases hu with rfl | rfl <;> rfl) (by omega) (by omega) (by omega) (by simp; omega) ?_)
  intro A3 c3 w3 ho3 hf3 hx3
  have hb3 : Below w.heap.size w w3 := (HB2.out.alloc HB2.out.size _).trans (hf3.below (by simp; omega) (fun y hy => (HO1.out.lt y hy).1))
  have ho3' : OwnV w3 w.heap.size A3 (n + 2) c3 (Fl (xs ++ [4635118810238550016, 4635189178982727680])) := by rw [Fl_append]; exact ho3
  have ho3t := ho3'.to_ (m := n) (by omega)
  have ht : (Fl (xs ++ [4635118810238550016, 4635189178982727680])).take n = Fl xs := by
    rw [Fl_append, List.take_append_of_le_length (by rw [Fl_len, HXL.out]; exact Nat.le_refl _), List.take_of_length_le (by rw [Fl_len, HXL.out]; exact Nat.le_refl _)]
  rw [ht] at ho3t
  have HB3 := Lib.hid hb3
  have HO3 := Lib.hid ho3'
  have HP3 := Lib.hid (quantP_any w3.drew A3 n c3 xs q ((ho3t.argF HFT.out).below (Below.refl _ _).drew) hq)
  have HOF := Lib.hid (of8_any w3.drew q)
  have h3le := ho3t.le
  have h3c := ho3'.cap
  unfold maxLen at h3c
  clear ho3 hf3 hx3 hb3 ho3' ho3t ht KP HO1 HB2 hz0 hz1 hz2 hi
  obtain ⟨QZ, hQZ⟩ : ∃ QZ, quaE xs q = QZ := ⟨_, rfl⟩
  rw [hQZ] at HP3
  unfold FE at HP3
  have HQZ := Lib.hid hQZ
  have n2i : (0 : Int) ≤ (n : Int) := by omega
  have n3i : (n : Int) ≤ (c3 : Int) := by omega
  clear hQZ
  go_wp2_with fail
  go_region_with (first
    | (with_reducible refine HOF.out.mono ?_; rintro e w' ⟨rfl, rfl⟩)
    | (with_reducible refine HP3.out.mono ?_; rintro e w4 ⟨v1, rfl, lv1, cv1, hb4⟩))
  have hb5 : Below w3.heap.size w3 w4 := (Below.refl w3.heap.size w3).drew.trans hb4
  have HB4 := Lib.hid (HB3.out.trans (hb5.mono HB3.out.size))
  have HO4 := Lib.hid (HO3.out.below hb5)
  have HC1 := Lib.hid (And.intro lv1 cv1)
  have ha4 := HA.out.below HB4.out
  have HL4 := Lib.hid (all_any w4 A n c xs ⟨ha4.len, ha4.le, ha4.cap, ha4.fit, fun h0 => by obtain ⟨b, off, e, hb, hc⟩ := ha4.at_ h0; exact ⟨b, off, e, Nat.lt_of_lt_of_le hb HB4.out.size, hc⟩⟩ (by omega))
  clear hb4 hb5 lv1 cv1 ha4 HP3 HB3 HO3 HOF
  go_wp2_with fail
  with_reducible refine HL4.out.mono ?_
  rintro e w5 ⟨A5, c5, rfl, ho5, hb5⟩
  have hf5 := ho5.argF HFT.out
  have HP5 := Lib.hid (quantD_any w5 A5 n c5 xs q hf5 hq)
  rw [HQZ.out] at HP5
  unfold FE at HP5
  have HOF2 := Lib.hid (of8_any w5 q)
  have HB5 := Lib.hid (HB4.out.trans (hb5.mono HB4.out.size))
  have HO5 := Lib.hid (HO4.out.below hb5)
  clear ho5 hf5 hb5 HL4 HB4 HO4
  go_wp2_with fail
  with_reducible refine HOF2.out.mono ?_
  rintro e w6 ⟨rfl, rfl⟩
  go_wp2_with fail
  with_reducible refine HP5.out.mono ?_
  rintro e w6 ⟨v2, rfl, lv2, cv2, hb6⟩
  have HB6 := Lib.hid (HB5.out.trans (hb6.mono HB5.out.size))
  have HO6 := Lib.hid (HO5.out.below hb6)
  have HS : Hid (∀ w, Calls Try.prog 19 #[.float .f64 v1, .float .f64 v2] w fun e w' => e = .returned (.bool true) ∧ w = w') := Lib.hid (fun w => same_yes w v1 v2 HC1.out.1 lv2 (HC1.out.2.trans cv2.symm))
  clear hb6 lv2 cv2 HC1 HP5 HB5 HO5 HOF2
  have o1 : FloatKind.f64.format.order 4635118810238550016 4635118810238550016 = some .eq := by decide +kernel
  have o2 : FloatKind.f64.format.order 4635189178982727680 4635189178982727680 = some .eq := by decide +kernel
  obtain ⟨E2, hE2⟩ : ∃ E2, QZ.2 = E2 := ⟨_, rfl⟩
  rw [hE2]
  go_wp2_with fail
  go_loopw [38] (fun iv wr => ∃ k : Nat, k ≤ n ∧ iv = .int .i64 (k : Int) ∧ Below w6.heap.size w6 wr) (fun iv _ => n - (intOf iv).toNat)
  case atStart => exact ⟨0, Nat.zero_le _, rfl, Below.refl _ _⟩
  case round =>
    obtain ⟨k, hk, rfl, hb⟩ := hrel
    rcases Nat.lt_or_ge k n with h1 | h1
    · have hx := HA.out.below (HB6.out.trans (hb.mono HB6.out.size))
      obtain ⟨bb, off, rfl, hB, hcell⟩ := hx.at_ (by omega)
      have q0 := hcell k h1
      have hxl : k < xs.length := by have := HXL.out; omega
      have hd0 : xs.getD k 0 = xs[k] := by rw [List.getD_eq_getElem?_getD, List.getElem?_eq_getElem hxl]; rfl
      obtain ⟨b3, o3, rfl, _, _, hc3, _⟩ := (HO6.out.below hb).cell (by omega)
      have q3 := hc3 k (.float .f64 xs[k]) (by rw [Fl_append, List.getElem?_append_left (by rw [Fl_len]; exact hxl)]; simp [Fl, hxl])
      have hfx := HFT.out _ (List.getElem_mem hxl)
      rw [hd0] at q0
      generalize xs[k] = x at q0 q3 hfx
      have HQ1 := Lib.hid (fun t => ((of8_any (wr.drewN t) x).mono (fun e w' ⟨a, b⟩ => ⟨a, b.symm⟩) : Calls Try.prog 17 #[.int .u64 (x : Int)] (wr.drewN t) fun e w' => e = .returned (.float .f64 x) ∧ w' = wr.drewN t))
      have HQ2 := Lib.hid (fun t => ((same_yes (wr.drewN t) x x hfx hfx rfl).mono (fun e w' ⟨a, b⟩ => ⟨a, b.symm⟩) : Calls Try.prog 19 #[.float .f64 x, .float .f64 x] (wr.drewN t) fun e w' => e = .returned (.bool true) ∧ w' = wr.drewN t))
      have ij : (k : Int) < (n : Int) := by omega
      have ij0 : (0 : Int) ≤ (k : Int) := by omega
      have ij2 : (k : Int) < (n : Int) + 2 := by omega
      have ij3 : (k : Int) < ((n + 2 : Nat) : Int) := by omega
      have HBr := Lib.hid hb
      clear hx hcell hc3 hd0 hb
      go_wp2_with fail
      go_quiet (first | (go_at_call 17; with_reducible exact Calls.quiet_of_same (HQ1.out _)) | (go_at_call 19; with_reducible exact Calls.quiet_of_same (HQ2.out _)))
      rename_i nq
      go_wp2
      go_roundw
      case rel => exact ⟨k + 1, by omega, by go_num, below_drewN HBr.out _⟩
      case measure => simp [intOf]; omega
    · obtain rfl : k = n := by omega
      have jn : ¬ (k : Int) < (k : Int) := by omega
      have HO9 := Lib.hid (HO6.out.below hb)
      have HBr := Lib.hid (HB6.out.trans (hb.mono HB6.out.size))
      obtain ⟨b3, o3, rfl, _, _, hc3, _⟩ := HO9.out.cell (by omega)
      have q4 := hc3 k (.float .f64 4635118810238550016) (by rw [Fl_append, List.getElem?_append_right (by rw [Fl_len, HXL.out]; exact Nat.le_refl _), Fl_len, HXL.out, Nat.sub_self]; rfl)
      have q5 := hc3 (k + 1) (.float .f64 4635189178982727680) (by rw [Fl_append, List.getElem?_append_right (by rw [Fl_len, HXL.out]; omega), Fl_len, HXL.out, Nat.add_sub_cancel_left]; rfl)
      have ik0 : (0 : Int) ≤ (k : Int) := by omega
      have ik2 : (k : Int) < (k : Int) + 2 := by omega
      have ik3 : (k : Int) < ((k + 2 : Nat) : Int) := by omega
      have ik4 : (k : Int) + 1 < (k : Int) + 2 := by omega
      have ik5 : (0 : Int) ≤ (k : Int) + 1 := by omega
      have ik6 : (k : Int) + 1 < ((k + 2 : Nat) : Int) := by omega
      clear hc3 hb
      go_wp2_with fail
      with_reducible refine (HS.out _).mono ?_
      rintro e w7 ⟨rfl, rfl⟩
      go_wp2
      go_ret
      exact ⟨rfl, HBr.out⟩
theorem meterQuantiles_walk (A : Option Addr) (n c : Nat) (xs : List Nat) (q : Int) (w : World) (h : ArgU w w.heap.size A n c xs) (hn : c ≤ 17592186043904) (wq : (Lit.int .u64 q).wf = true) :
    Calls Try.prog 7 #[.slice A n c, .int .u64 q] w (ValEnd w (.bool true)) := by
  have b1 := bounds_u64 wq
  obtain ⟨q, rfl⟩ : ∃ k : Nat, q = (k : Int) := ⟨q.toNat, by omega⟩
  exact meterQuantiles_w A n c xs q w h hn (by omega)
end Go.Proofs.Ytffibfnagoagcaa
