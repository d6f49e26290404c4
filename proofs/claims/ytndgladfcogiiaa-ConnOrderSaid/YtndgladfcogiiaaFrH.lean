/- Contracts: Encode, New, End, Waiting; the document's Encode and Same. -/
import Derived.Test.YtndgladfcogiiaaFrF
import Derived.Test.YtndgladfcogiiaaTokC
namespace Go.Proofs.Ytndgladfcogiiaa
open Go.RowKit
set_option maxRecDepth 100000
set_option linter.unusedVariables false

theorem OwnB.notnone {w : World} {B n c : Nat} {A : Option Addr} {xs : List Nat} (h : OwnB w B A n c xs) (hn : 0 < n) : ∃ g, A = some ⟨g, 0, none⟩ := by
  rcases h.1.2 with ⟨e, e2⟩ | ⟨g, cap, cur, h1, _⟩
  · simp only [Value.slice.injEq] at e; omega
  · simp only [Value.slice.injEq] at h1; exact ⟨g, h1.1⟩

theorem fenc_long (w : World) (A : Option Addr) (n c : Nat) (hn : 4096 < n) : Calls Try.prog 34 #[.slice A n c] w fun e w' => e = .returned (.tuple #[.slice none 0 0, .int .i64 2]) ∧ w = w' := by
  have d : decide ((4096 : Int) < (n : Int)) = true := by simp; omega
  go_enter Try.func34, Try.ntmps34
  go_wp2
  go_ret2
  exact ⟨rfl, rfl⟩
theorem fenc_none (w : World) (A : Option Addr) (c : Nat) : Calls Try.prog 34 #[.slice A 0 c] w fun e w' => e = .returned (.tuple #[.slice none 0 0, .int .i64 3]) ∧ w = w' := by
  go_enter Try.func34, Try.ntmps34
  go_wp2
  go_ret2
  exact ⟨rfl, rfl⟩
set_option maxHeartbeats 1600000 in
theorem fenc_good (w : World) (B : Nat) (A : Option Addr) (n c : Nat) (zs : List Nat) (h : Arg w B A n c zs) (hB : B ≤ w.heap.size) (h1 : 1 ≤ n) (hn : n ≤ 4096) : Calls Try.prog 34 #[.slice A n c] w (NewB w (Fr.encV zs) (n + 4)) := by
  obtain ⟨i0, hi, hz0, hz1, hz2⟩ := info_parts u8_info
  have d : decide ((4096 : Int) < (n : Int)) = false := by simp; omega
  have d2 : ((n : Int) == 0) = false := by simp; omega
  have e4 : IntKind.i64.wrap (4 + (n : Int)) = ((n + 4 : Nat) : Int) := by rw [IntWalk.i64_in _ (by omega)]; push_cast; omega
  have e4' : (4 + (n : Int)) = ((n + 4 : Nat) : Int) := by push_cast; omega
  have eu : IntKind.u64.wrap (n : Int) = (n : Int) := IntWalk.u64_in _ (by omega)
  have HLEN := Lib.hid h.len
  have HA := Lib.hid (h.more hB)
  clear h
  go_enter Try.func34, Try.ntmps34
  go_wp2_with (refine wpList_make_own _ rfl (.const (.int .i64 0)) (.tmp 13) _ rfl w.heap.size 5 i0 (.int .u8 0) 1 Try.underlying22 hi hz0 hz1 .i64 .i64 _ (n + 4) rfl rfl rfl (by rw [hz2]; omega) (by unfold maxLen; omega) (by simp) ?_)
  intro w1 hown1 hgrow1
  have hb1 : Below w.heap.size w w1 := (Below.refl _ _).grown hgrow1 (by simp) (by simp)
  have HO1 : Hid (OwnB w1 w.heap.size (some ⟨w.heap.size, 0, none⟩) 0 (n + 4) []) := Lib.hid ⟨by simpa using hown1, by simp⟩
  have HA1 := Lib.hid (HA.out.below hb1)
  have hz1' := hb1.size
  have HB1 := Lib.hid hb1
  clear hown1 hgrow1 hb1
  go_wp2_with fail
  with_reducible refine (append4 _ w.heap.size (some ⟨w.heap.size, 0, none⟩) 0 (n + 4) n _ HO1.out (by omega) (by omega) (by omega)).mono ?_
  rintro e w2 ⟨A2, c2, rfl, ho2, hb2⟩
  have HO2 := Lib.hid ho2
  have HA2 := Lib.hid (HA1.out.below hb2)
  have HB2 := Lib.hid (HB1.out.trans hb2)
  have hz2' := (HB1.out.trans hb2).size
  clear ho2 hb2
  go_wp2_with (refine wpList_append_bytes rfl (.tmp 20) (.tmp 21) rfl w.heap.size A2 (0 + 4) c2 _ rfl HO2.out w.heap.size A n c zs rfl HA2.out (by omega) hz2' ?_)
  intro A3 c3 w3 ho3 hb3
  have HO3 := Lib.hid ho3
  have HB3 := Lib.hid (HB2.out.trans hb3)
  clear ho3 hb3
  go_wp2
  go_ret2
  refine ⟨A3, c3, ret_sl (by omega), ?_, HB3.out⟩
  have := HO3.out
  unfold Fr.encV
  rw [HLEN.out, show n + 4 = 0 + 4 + n by omega]
  simpa using this
theorem fnew_any (w : World) : Calls Try.prog 33 #[] w fun e w' => e = .returned (.pointer (some ⟨w.heap.size, 0, none⟩)) ∧ w' = w.alloc (.cells #[.slice none 0 0, .bool false] 133) := by
  go_enter Try.func33, Try.ntmps33
  go_wp2
  go_ret
  exact ⟨rfl, rfl⟩
theorem fwait_nil (w : World) : Calls Try.prog 41 #[.pointer none] w fun e w' => e = .returned (.int .i64 0) ∧ w = w' := by
  go_enter Try.func41, Try.ntmps41
  go_wp2
  go_ret
  exact ⟨rfl, rfl⟩
theorem fwait_any (w : World) (rb : Nat) (A : Option Addr) (n c : Nat) (v : Value) (h : BlkL w rb [.slice A n c, v]) : Calls Try.prog 41 #[.pointer (some ⟨rb, 0, none⟩)] w fun e w' => e = .returned (.int .i64 (n : Nat)) ∧ w = w' := by
  have h0 := h.cell 0 _ rfl
  clear h
  go_enter Try.func41, Try.ntmps41
  go_wp2
  go_ret
  exact ⟨rfl, rfl⟩
theorem fend_nil (w : World) : Calls Try.prog 36 #[.pointer none] w fun e w' => e = .returned (.tuple #[.int .i64 0, .int .i64 7]) ∧ w = w' := by
  go_enter Try.func36, Try.ntmps36
  go_wp2
  go_ret2
  exact ⟨rfl, rfl⟩
theorem fend_closed (w : World) (rb : Nat) (v : Value) (h : BlkL w rb [v, .bool true]) : Calls Try.prog 36 #[.pointer (some ⟨rb, 0, none⟩)] w fun e w' => e = .returned (.tuple #[.int .i64 0, .int .i64 13]) ∧ w = w' := by
  have h1 := h.cell 1 _ rfl
  clear h
  go_enter Try.func36, Try.ntmps36
  go_wp2
  go_ret2
  exact ⟨rfl, rfl⟩
theorem fend_open (w : World) (rb : Nat) (A : Option Addr) (n c : Nat) (h : BlkL w rb [.slice A n c, .bool false]) : Calls Try.prog 36 #[.pointer (some ⟨rb, 0, none⟩)] w fun e w' =>
    e = .returned (.tuple #[.int .i64 (n : Nat), .int .i64 0]) ∧ w' = (w.setCell ⟨rb, 0, none⟩ (.slice none 0 0)).setCell ⟨rb, 1, none⟩ (.bool true) := by
  have h0 := h.cell 0 _ rfl
  have h1 := h.cell 1 _ rfl
  have HC := Lib.hid (close_any w rb _ _ h)
  clear h
  go_enter Try.func36, Try.ntmps36
  go_wp2_with (with_reducible refine (HC.out).mono ?_)
  rintro e w' ⟨rfl, rfl⟩
  go_wp2
  go_ret2
  exact ⟨rfl, rfl⟩

set_option maxHeartbeats 800000 in
theorem dfenc_long (w : World) (A : Option Addr) (n c : Nat) (hn : 4096 < n) : Calls Try.prog 35 #[.slice A n c] w fun e w' => e = .returned (.tuple #[.slice none 0 0, .int .i64 2]) ∧ w = w' := by
  have d : decide ((4096 : Int) < (n : Int)) = true := by simp; omega
  go_enter Try.func35, Try.ntmps35
  go_wp2
  go_ret2
  exact ⟨rfl, rfl⟩
theorem dfenc_none (w : World) (A : Option Addr) (c : Nat) : Calls Try.prog 35 #[.slice A 0 c] w fun e w' => e = .returned (.tuple #[.slice none 0 0, .int .i64 3]) ∧ w = w' := by
  go_enter Try.func35, Try.ntmps35
  go_wp2
  go_ret2
  exact ⟨rfl, rfl⟩
theorem dfenc_good (w : World) (B : Nat) (A : Option Addr) (n c : Nat) (zs : List Nat) (h : Arg w B A n c zs) (hB : B ≤ w.heap.size) (h1 : 1 ≤ n) (hn : n ≤ 4096) : Calls Try.prog 35 #[.slice A n c] w (NewB w (Fr.encV zs) (n + 4)) := by
  have d : decide ((4096 : Int) < (n : Int)) = false := by simp; omega
  have d2 : ((n : Int) == 0) = false := by simp; omega
  have eu : IntKind.u64.wrap (n : Int) = (n : Int) := IntWalk.u64_in _ (by omega)
  have HLEN := Lib.hid h.len
  have HA := Lib.hid (h.more hB)
  clear h
  go_enter Try.func35, Try.ntmps35
  go_wp2_with fail
  with_reducible refine (word4 _ n (by omega)).mono ?_
  rintro e w1 ⟨A1, c1, rfl, ho, hb⟩
  have HO := Lib.hid ho
  have HB := Lib.hid hb
  have HA1 := Lib.hid (HA.out.below hb)
  have hz := hb.size
  clear ho hb
  go_wp2_with (refine wpList_append_bytes rfl (.tmp 13) (.tmp 14) rfl w.heap.size A1 4 c1 _ rfl HO.out w.heap.size A n c zs rfl HA1.out (by omega) hz ?_)
  intro A2 c2 w2 ho2 hb2
  have HO2 := Lib.hid ho2
  have HB2 := Lib.hid (HB.out.trans hb2)
  clear ho2 hb2
  go_wp2
  go_ret2
  refine ⟨A2, c2, ret_sl (by omega), ?_, HB2.out⟩
  have := HO2.out
  unfold Fr.encV
  rw [HLEN.out, Nat.add_comm n 4]
  exact this

/-- Lists of bytes that are only read, in a list that is only read. -/
structure ArgL (w : World) (B : Nat) (A : Option Addr) (k c : Nat) (ps : List (List Nat)) : Prop where
  len : ps.length = k
  le : k ≤ c
  cap : c ≤ maxLen
  none_ : A = none → k = 0 ∧ c = 0
  at_ : 0 < k → ∃ b off, A = some ⟨b, off, none⟩ ∧ b < B ∧ ∀ i, i < k → ∃ Ai ni ci, w.cell? ⟨b, off + i, none⟩ = some (.slice Ai ni ci) ∧ Arg w B Ai ni ci (ps.getD i [])
section
variable {w w' : World} {B B' k c : Nat} {A : Option Addr} {ps : List (List Nat)}
theorem ArgL.below (h : ArgL w B A k c ps) (hb : Below B w w') : ArgL w' B A k c ps :=
  ⟨h.len, h.le, h.cap, h.none_, fun hk => by
    obtain ⟨b, off, e, hB, hc⟩ := h.at_ hk
    refine ⟨b, off, e, hB, fun i hi => ?_⟩
    obtain ⟨Ai, ni, ci, h1, h2⟩ := hc i hi
    exact ⟨Ai, ni, ci, (hb.cell (p := ⟨b, off + i, none⟩) hB).trans h1, h2.below hb⟩⟩
theorem ArgL.more (h : ArgL w B A k c ps) (hB : B ≤ B') : ArgL w B' A k c ps :=
  ⟨h.len, h.le, h.cap, h.none_, fun hk => by
    obtain ⟨b, off, e, hb, hc⟩ := h.at_ hk
    refine ⟨b, off, e, by omega, fun i hi => ?_⟩
    obtain ⟨Ai, ni, ci, h1, h2⟩ := hc i hi
    exact ⟨Ai, ni, ci, h1, h2.more hB⟩⟩
theorem ArgL.drewN (h : ArgL w B A k c ps) (t : Nat) : ArgL (w.drewN t) B A k c ps := h.below (below_drewN (Below.refl _ _) t)
theorem PayL.arg {rs : List Row} (h : PayL w B A k c rs) : ArgL w w.heap.size A k c (rs.map (·.p)) := by
  have hl := h.len
  refine ⟨by simpa using hl, h.own.le, h.own.cap, h.own.none_, fun hk => ?_⟩
  obtain ⟨b, off, e, _, h2, h3, _⟩ := h.own.cell hk
  refine ⟨b, off, e, h2, fun i hi => ?_⟩
  have hr : rs[i]? = some rs[i] := List.getElem?_eq_getElem (by omega)
  have ho := h.row rs[i] (List.getElem_mem _)
  have hn := ho.len
  refine ⟨_, _, _, h3 i _ (by rw [List.getElem?_map, hr]; rfl), ?_⟩
  have e : (rs.map (·.p)).getD i [] = rs[i].p := by rw [List.getD_eq_getElem?_getD, List.getElem?_map, hr]; rfl
  rw [e]
  exact ho.own.arg' ho.byte
end
set_option maxHeartbeats 3200000 in
theorem sameL_any (w : World) (A A' : Option Addr) (n c n' c' : Nat) (L L' : List (List Nat)) (h : ArgL w w.heap.size A n c L) (h' : ArgL w w.heap.size A' n' c' L') (he : L = L') (hn : n ≤ 140737488355328) :
    Calls Try.prog 40 #[.slice A n c, .slice A' n' c'] w (SameEnd w true) := by
  have hl := h.len
  have hl' := h'.len
  subst he
  obtain rfl : n' = n := by omega
  have H1 := Lib.hid (And.intro h h')
  clear h h' hl hl'
  go_enter Try.func40, Try.ntmps40
  go_wp2
  go_loopw [13] (fun iv wr => ∃ i t : Nat, i ≤ n' ∧ iv = .int .i64 (i : Int) ∧ wr = w.drewN t) (fun iv _ => n' - (intOf iv).toNat)
  case atStart => exact ⟨0, 0, Nat.zero_le _, rfl, rfl⟩
  case round =>
    obtain ⟨i, t, hi, rfl, hwt⟩ := hrel
    have h1 : ArgL wr w.heap.size A n' c L := by rw [hwt]; exact H1.out.1.drewN t
    have h2 : ArgL wr w.heap.size A' n' c' L := by rw [hwt]; exact H1.out.2.drewN t
    have HWT := Lib.hid hwt
    clear hwt
    rcases Nat.lt_or_ge i n' with hlt | hge
    · obtain ⟨b, off, rfl, _, hc⟩ := h1.at_ (by omega)
      obtain ⟨b', off', rfl, _, hc'⟩ := h2.at_ (by omega)
      obtain ⟨KA, kn, kc, e0, a0⟩ := hc i hlt
      obtain ⟨KA', kn', kc', g0, b0⟩ := hc' i hlt
      have HSB := Lib.hid (fun q => show Calls Try.prog 23 #[.slice KA kn kc, .slice KA' kn' kc'] (wr.drewN q) (fun e w' => e = .returned (.bool true) ∧ ∃ m, w' = (wr.drewN q).drewN m) from
        same_any (wr.drewN q) w.heap.size w.heap.size KA KA' kn kc kn' kc' (L.getD i []) (L.getD i []) true (by simp) (a0.drewN q) (b0.drewN q))
      have i0 : (0 : Int) ≤ (i : Int) := by omega
      have i1 : (i : Int) < (n' : Int) := by omega
      clear hc hc' h1 h2 a0 b0
      go_wp2_with fail
      go_quiet (first | (go_at_call 23; with_reducible exact Calls.quiet_of (HSB.out _)))
      go_wp2
      go_roundw
      case rel => exact ⟨i + 1, _, by omega, by push_cast; rfl, by rw [HWT.out]; exact World.drewN_drewN _ _ _⟩
      case measure => simp [intOf]; omega
    · obtain rfl : i = n' := by omega
      go_wp2
      go_ret
      exact ⟨rfl, t, HWT.out⟩
end Go.Proofs.Ytndgladfcogiiaa
