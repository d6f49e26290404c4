/- Contract: entries, the law's: the shard's entries as the document has them. -/
import Derived.Test.YtpjgpiiibgogeaaEnA
namespace Go.Proofs.Ytpjgpiiibgogeaa
open Go.RowKit
set_option maxRecDepth 100000
set_option linter.unusedVariables false

theorem OwnC.ver0 {w : World} {B : Nat} {A : Option Addr} {n c : Nat} {es : List KV} (h : OwnC w B TE 2 A n c (KVs es)) (hk : ∀ e ∈ es, OwnB w B e.A e.n e.c e.zs ∧ e.n ≤ 256) : VerA w w.heap.size [] A n c es :=
  ⟨h.arg, by intro _ a _ hm; simp at hm, fun e he => ⟨(hk e he).1.arg, by intro _ a _ hm; simp at hm, (hk e he).2⟩⟩
theorem OwnC14.ver0 {w : World} {B B' : Nat} {A : Option Addr} {n c : Nat} {es : List KV} (h : OwnC w B E14 2 A n c (KVs es)) (hB : B' ≤ w.heap.size) (hk : ∀ e ∈ es, Arg w B' e.A e.n e.c e.zs ∧ e.n ≤ 256) : VerA w w.heap.size [] A n c es :=
  ⟨h.arg, by intro _ a _ hm; simp at hm, fun e he => ⟨(hk e he).1.more hB, by intro _ a _ hm; simp at hm, (hk e he).2⟩⟩
/-- A document's map in memory: what Same, Find, Put, Drop read. -/
def EntEnd14 (w : World) (l : List Ent) (e : Ending) (w' : World) : Prop :=
  ∃ A c es, e = .returned (.slice A l.length c) ∧ VerA w' w'.heap.size [] A l.length c es ∧ es.map KV.ent = l ∧ Below w.heap.size w w'
set_option maxHeartbeats 12800000 in
theorem entries14_any (w : World) (s b bw : Nat) (X : List Nat) (k v : Nat) (A : Option Addr) (n c : Nat) (es : List KV) (fv : Nat → Value) (nx : Nat → Nx) (ring : List Value) (h : ShR w s b bw X k v A n c es fv nx ring) :
    Calls Try.prog 47 #[.pointer (some ⟨s, 0, none⟩)] w (EntEnd14 w (es.map KV.ent)) := by
  have hl := h.ver.len
  have hln := h.wf.len
  have HE := Lib.hid (entries_any w s b bw X k v A n c es fv nx ring h)
  clear h hl
  generalize es.map KV.ent = l at *
  obtain ⟨n, hn⟩ : ∃ n, n = l.length := ⟨_, rfl⟩
  have HE2 : Hid (Calls Try.prog 42 #[.pointer (some ⟨s, 0, none⟩)] w fun e w' => ∃ A c es, e = .returned (.slice A n c) ∧ OwnC w' w.heap.size TE 2 A n c (KVs es) ∧ es.map KV.ent = l ∧ (∀ e ∈ es, OwnB w' w.heap.size e.A e.n e.c e.zs ∧ e.n ≤ 256) ∧ Below w.heap.size w w') := Lib.hid (HE.out.mono fun e w' h => by rw [hn]; exact h)
  clear HE
  go_enter Try.func47, Try.ntmps47
  go_wp2_with fail
  with_reducible refine (HE2.out).mono ?_
  rintro e w1 ⟨A1, c1, fs, rfl, hown, hfe, hk, hb⟩
  rw [← hn] at hln
  have HN := Lib.hid hn
  have hV := OwnC.ver0 hown hk
  have HV := Lib.hid hV
  have hfl : fs.length = n := by rw [hn, ← hfe, List.length_map]
  clear hn
  have HLEN := Lib.hid hfl
  have hle := hV.arg.le
  have hcap := hV.arg.cap
  unfold maxLen at hcap
  have hsz1 := hb.size
  have HB1 := Lib.hid (And.intro hb hfe)
  clear hown hk hb hfe hV HE2 hfl
  go_wp2
  go_loopw [3, 9] (fun ov iv wr => ∃ (i : Nat) (A2 : Option Addr) (cc : Nat), i ≤ n ∧ iv = .int .i64 (i : Int) ∧ ov = .slice A2 i cc ∧ OwnC wr w1.heap.size E14 2 A2 i cc (KVs (fs.take i)) ∧ Below w1.heap.size w1 wr) (fun _ iv _ => n - (intOf iv).toNat)
  case atStart => exact ⟨0, none, 0, Nat.zero_le _, rfl, rfl, by simp only [List.take_zero]; exact OwnC.nil _ _ _ _, Below.refl _ _⟩
  case round =>
    obtain ⟨i, A2, cc, hi, rfl, rfl, hown, hbw⟩ := hrel
    have hsz := hbw.size
    rcases Nat.lt_or_ge i n with hlt | hge
    · obtain ⟨g, off, rfl, hgB, hc0, hc1⟩ := (HV.out.below hbw).at_ (i := i) hlt
      have hte : fs.take (i + 1) = fs.take i ++ [fs.getD i noKV] := by
        rw [List.take_add_one, List.getElem?_eq_getElem (by rw [HLEN.out]; exact hlt), List.getD_eq_getElem?_getD, List.getElem?_eq_getElem (by rw [HLEN.out]; exact hlt)]; rfl
      generalize fs.getD i noKV = y at *
      obtain ⟨xA, xn, xc, xz, xv⟩ := y
      simp only at hc0 hc1
      have HTE := Lib.hid hte
      have b1 : Below wr.heap.size wr (wr.alloc (.cells #[.slice xA xn xc, .int .i64 xv] TE)) := (Below.refl _ _).alloc (Nat.le_refl _) _
      have b2 : Below wr.heap.size wr ((wr.alloc (.cells #[.slice xA xn xc, .int .i64 xv] TE)).alloc (.cells #[.slice xA xn xc, .int .i64 xv] E14)) := b1.alloc b1.size _
      have HO2 := Lib.hid (hown.below b2)
      have hk2 := BlkL.new (wr.alloc (.cells #[.slice xA xn xc, .int .i64 xv] TE)) [.slice xA xn xc, .int .i64 xv] E14
      rw [World.size_alloc] at hk2
      have HK2 := Lib.hid hk2
      have HB2 := Lib.hid (hbw.trans (b2.mono hsz))
      have hz2 : w1.heap.size ≤ ((wr.alloc (.cells #[.slice xA xn xc, .int .i64 xv] TE)).alloc (.cells #[.slice xA xn xc, .int .i64 xv] E14)).heap.size := HB2.out.size
      have hfi : (fs.take i).length = i := by rw [List.length_take, HLEN.out]; omega
      have HFI := Lib.hid hfi
      have j0 : (0 : Int) ≤ (i : Int) := by omega
      have j1 : (i : Int) < (n : Int) := by omega
      clear hown hte b1 b2 hfi hk2
      go_wp2_with (refine wpList_append_e14 rfl (.tmp 13) (.tmp 19) rfl w1.heap.size A2 i cc (fs.take i) rfl HO2.out (wr.heap.size + 1) 1 ⟨xA, xn, xc, xz, xv⟩ rfl HK2.out (by omega) hz2 ?_)
      intro A3 c3 w3 ho3 hb3
      have HOB := Lib.hid (And.intro ho3 (HB2.out.trans hb3))
      clear ho3 hb3
      go_wp2
      go_roundw
      case rel => exact ⟨i + 1, A3, c3, by omega, by go_num, rfl, by rw [HTE.out]; exact HOB.out.1, HOB.out.2⟩
      case measure => simp [intOf]; omega
    · obtain rfl : i = n := by omega
      have j1 : ¬ (i : Int) < (i : Int) := by omega
      have HOK := Lib.hid (And.intro hown hbw)
      clear hown
      go_wp2
      go_ret
      refine ⟨A2, cc, fs, by rw [← HN.out]; rfl, ?_, HB1.out.2, HB1.out.1.trans (HOK.out.2.mono hsz1)⟩
      rw [← HN.out]
      have ho := HOK.out.1
      rw [List.take_of_length_le (by rw [HLEN.out]; exact Nat.le_refl _)] at ho
      exact OwnC14.ver0 ho hsz (fun e he => ⟨(HV.out.below HOK.out.2).key e he |>.1, ((HV.out.key e he).2.2)⟩)
end Go.Proofs.Ytpjgpiiibgogeaa
