/- Contracts: Parts, by the program and by the document. -/
import Derived.Test.YtnkecjjfbllgdaaIdent
import Derived.Deep.RegionHeld3
namespace Go.Proofs.Ytnkecjjfbllgdaa
open Go.RowKit
set_option maxRecDepth 100000

def NoKey (w : World) (e : Ending) (w' : World) : Prop := e = .returned (.tuple #[.int .i64 0, .slice none 0 0, .int .i64 3]) ∧ w = w'
/-- A policy, a new key, OK. -/
def KeyEnd (w : World) (p : Nat) (zs : List Nat) (n : Nat) (e : Ending) (w' : World) : Prop :=
  ∃ A c, e = .returned (.tuple #[.int .i64 (p : Int), .slice A n c, .int .i64 0]) ∧ OwnB w' w.heap.size A n c zs ∧ Below w.heap.size w w'

set_option maxHeartbeats 400000 in
theorem parts_empty (w : World) (A : Option Addr) (c : Nat) : Calls Try.prog 39 #[.slice A 0 c] w (NoKey w) := by
  go_enter Try.func39, Try.ntmps39
  go_wp2
  go_ret3
  exact ⟨rfl, rfl⟩

set_option maxRecDepth 100000 in
set_option maxHeartbeats 400000 in
theorem parts_long (w : World) (A : Option Addr) (n c : Nat) (hn : 256 < n) : Calls Try.prog 39 #[.slice A n c] w (NoKey w) := by
  go_enter Try.func39, Try.ntmps39
  go_wp2
  go_ret3
  exact ⟨rfl, rfl⟩

set_option maxRecDepth 100000 in
set_option maxHeartbeats 400000 in
theorem parts_first (w : World) (B : Nat) (A : Option Addr) (n c x : Nat) (zs : List Nat) (h : Arg w B A (n + 1) c (x :: zs)) (hn : n + 1 ≤ 256) (hx : 32 ≤ x) : Calls Try.prog 39 #[.slice A (n + 1) c] w (NoKey w) := by
  obtain ⟨b, off, rfl, _, hc⟩ := h.at_ (by omega)
  have hc0 : w.cell? ⟨b, off, none⟩ = some (.int .u8 (x : Int)) := by simpa using hc 0 (by omega)
  have hxl := h.byte x (by simp)
  clear hc h
  go_enter Try.func39, Try.ntmps39
  go_wp2
  go_ret3
  exact ⟨rfl, rfl⟩

theorem key_fin {w2 : World} {g n : Nat} {zs : List Nat} (hl : zs.length = n) (hby : ∀ d ∈ zs, d < 256) (hn : n ≤ 255)
    (h : w2.heap[g]? = some (.cells (splice ((List.replicate n 0).map V8) 0 (zs.map V8)).toArray 5 (0, 0))) : OwnB w2 g (some ⟨g, 0, none⟩) n n zs := by
  have e : splice (List.replicate n 0) 0 zs = zs := by
    unfold splice
    simp [hl]
  rw [splice_map, e] at h
  exact OwnB.of_block h (Nat.le_refl _) hl (by unfold maxLen; omega) hby

set_option maxRecDepth 100000 in
set_option maxHeartbeats 800000 in
theorem parts_tight (w : World) (B : Nat) (A : Option Addr) (p : Nat) (zs : List Nat) (h : Arg w B A 1 1 (p :: zs)) (hB : B ≤ w.heap.size) (hp : p < 32) :
    Calls Try.prog 39 #[.slice A 1 1] w (KeyEnd w p zs 0) := by
  obtain ⟨i0, hi, hz0, hz1, hz2⟩ := info_parts u8_info
  have hlen : Hid (zs.length = 0) := by have := h.len; show zs.length = _; simp only [List.length_cons] at this; omega
  have hby : Hid (∀ d ∈ zs, d < 256) := fun d hd => h.byte d (by simp [hd])
  have HA := Lib.hid (h.more hB)
  obtain ⟨b, off, rfl, hbB, hc⟩ := h.at_ (by omega)
  have hc0 : w.cell? ⟨b, off, none⟩ = some (.int .u8 (p : Int)) := by simpa using hc 0 (by omega)
  clear h hc
  go_enter Try.func39, Try.ntmps39
  go_wp2_with fail
  obtain ⟨w1, hrun1, hown1, hgrow1⟩ := run_make_full (P := Try.prog) w w.heap.size 23 5 i0 (.int .u8 0) 1 Try.underlying23 hi hz0 hz1 .i64 .i64 0 (by rw [hz2]; omega) (by unfold maxLen; omega) (Nat.le_refl _)
  have hrun2 : (Instr.makeSlice 23 (.int .i64 0) (.int .i64 0)).run Try.prog w = _ := hrun1
  rw [hrun2]
  clear hrun1 hrun2
  simp only [Result.andThen]
  rw [Oper.upon_value]
  rw [Nat.mul_one] at hown1
  have hblk := made_block hown1
  have hb1 : Below w.heap.size w w1 := (Below.refl _ _).grown hgrow1 (Nat.le_refl _) (by simp)
  have HBLK := Lib.hid hblk
  have HBS := Lib.hid hb1
  have HCS := Lib.hid ((HA.out.below hb1).from_ (k := 1) (by omega))
  clear hblk hb1 hown1 hgrow1
  go_wp2_with (refine wpList_copy_splice rfl (.tmp 24) (.tmp 26) 23 23 rfl 5 Try.underlying23 u8_size _ _ 0 0 _ _ rfl rfl w.heap.size 0 ((List.replicate 0 0).map V8) 5 HBLK.out (zs.map V8) (by simp [hlen.out]) (fun hh => absurd hh (by simp [hlen.out])) (by simp [hlen.out]) (bytes_oneCell zs) w.heap.size w HBS.out (Nat.le_refl _) ?_)
  intro w2 HG2 hB2
  have hc2' : w2.cell? ⟨b, off, none⟩ = some (.int .u8 (p : Int)) := (hB2.cell (p := ⟨b, off, none⟩) (Nat.lt_of_lt_of_le hbB hB)).trans hc0
  have HB2 := Lib.hid hB2
  have HO := Lib.hid (key_fin hlen.out hby.out (by omega) (by simpa using HG2.out))
  clear hB2 HG2 hc0
  go_wp2
  go_ret3
  exact ⟨_, _, rfl, HO.out, HB2.out⟩


set_option maxRecDepth 100000 in
set_option maxHeartbeats 800000 in
theorem parts_loose (w : World) (B : Nat) (A : Option Addr) (c p : Nat) (zs : List Nat) (h : Arg w B A 1 c (p :: zs)) (hB : B ≤ w.heap.size) (hp : p < 32) (hc2 : 2 ≤ c) :
    Calls Try.prog 39 #[.slice A 1 c] w (KeyEnd w p zs 0) := by
  obtain ⟨i0, hi, hz0, hz1, hz2⟩ := info_parts u8_info
  have hlen : Hid (zs.length = 0) := by have := h.len; show zs.length = _; simp only [List.length_cons] at this; omega
  have hby : Hid (∀ d ∈ zs, d < 256) := fun d hd => h.byte d (by simp [hd])
  have HA := Lib.hid (h.more hB)
  obtain ⟨b, off, rfl, hbB, hc⟩ := h.at_ (by omega)
  have hc0 : w.cell? ⟨b, off, none⟩ = some (.int .u8 (p : Int)) := by simpa using hc 0 (by omega)
  clear h hc
  go_enter Try.func39, Try.ntmps39
  go_wp2_with fail
  obtain ⟨w1, hrun1, hown1, hgrow1⟩ := run_make_full (P := Try.prog) w w.heap.size 23 5 i0 (.int .u8 0) 1 Try.underlying23 hi hz0 hz1 .i64 .i64 0 (by rw [hz2]; omega) (by unfold maxLen; omega) (Nat.le_refl _)
  have hrun2 : (Instr.makeSlice 23 (.int .i64 0) (.int .i64 0)).run Try.prog w = _ := hrun1
  rw [hrun2]
  clear hrun1 hrun2
  simp only [Result.andThen]
  rw [Oper.upon_value]
  rw [Nat.mul_one] at hown1
  have hblk := made_block hown1
  have hb1 : Below w.heap.size w w1 := (Below.refl _ _).grown hgrow1 (Nat.le_refl _) (by simp)
  have HBLK := Lib.hid hblk
  have HBS := Lib.hid hb1
  have HCS := Lib.hid ((HA.out.below hb1).from_ (k := 1) (by omega))
  clear hblk hb1 hown1 hgrow1
  go_wp2_with (refine wpList_copy_splice rfl (.tmp 24) (.tmp 26) 23 23 rfl 5 Try.underlying23 u8_size _ _ 0 0 _ _ rfl rfl w.heap.size 0 ((List.replicate 0 0).map V8) 5 HBLK.out (zs.map V8) (by simp [hlen.out]) (fun hh => absurd hh (by simp [hlen.out])) (by simp [hlen.out]) (bytes_oneCell zs) w.heap.size w HBS.out (Nat.le_refl _) ?_)
  intro w2 HG2 hB2
  have hc2' : w2.cell? ⟨b, off, none⟩ = some (.int .u8 (p : Int)) := (hB2.cell (p := ⟨b, off, none⟩) (Nat.lt_of_lt_of_le hbB hB)).trans hc0
  have HB2 := Lib.hid hB2
  have HO := Lib.hid (key_fin hlen.out hby.out (by omega) (by simpa using HG2.out))
  clear hB2 HG2 hc0
  go_wp2
  go_ret3
  exact ⟨_, _, rfl, HO.out, HB2.out⟩


set_option maxRecDepth 100000 in
set_option maxHeartbeats 800000 in
theorem parts_more (w : World) (B : Nat) (A : Option Addr) (n c p : Nat) (zs : List Nat) (h : Arg w B A (n + 1) c (p :: zs)) (hB : B ≤ w.heap.size) (hp : p < 32) (hn1 : 1 ≤ n) (hn : n ≤ 255) (hc2 : n + 1 ≤ c) :
    Calls Try.prog 39 #[.slice A (n + 1) c] w (KeyEnd w p zs n) := by
  obtain ⟨i0, hi, hz0, hz1, hz2⟩ := info_parts u8_info
  have hlen : Hid (zs.length = n) := by have := h.len; show zs.length = _; simp only [List.length_cons] at this; omega
  have hby : Hid (∀ d ∈ zs, d < 256) := fun d hd => h.byte d (by simp [hd])
  have HA := Lib.hid (h.more hB)
  obtain ⟨b, off, rfl, hbB, hc⟩ := h.at_ (by omega)
  have hc0 : w.cell? ⟨b, off, none⟩ = some (.int .u8 (p : Int)) := by simpa using hc 0 (by omega)
  clear h hc
  have q1 : ((n : Int) + 1 == 0) = false := beq_eq_false_iff_ne.2 (by omega)
  have q2 : decide ((256 : Int) < (n : Int) + 1) = false := decide_eq_false (by omega)
  have q3 : decide ((32 : Int) ≤ (p : Int)) = false := decide_eq_false (by omega)
  go_enter Try.func39, Try.ntmps39
  go_wp2_with fail
  obtain ⟨w1, hrun1, hown1, hgrow1⟩ := run_make_full (P := Try.prog) w w.heap.size 23 5 i0 (.int .u8 0) 1 Try.underlying23 hi hz0 hz1 .i64 .i64 n (by rw [hz2]; omega) (by unfold maxLen; omega) (Nat.le_refl _)
  have hrun2 : (Instr.makeSlice 23 (.int .i64 (n : Int)) (.int .i64 (n : Int))).run Try.prog w = _ := hrun1
  rw [hrun2]
  clear hrun1 hrun2
  simp only [Result.andThen]
  rw [Oper.upon_value]
  rw [Nat.mul_one] at hown1
  have hblk := made_block hown1
  have hb1 : Below w.heap.size w w1 := (Below.refl _ _).grown hgrow1 (Nat.le_refl _) (by simp)
  have HBLK := Lib.hid hblk
  have HBS := Lib.hid hb1
  have HCS := Lib.hid ((HA.out.below hb1).from_ (k := 1) (by omega))
  clear hblk hb1 hown1 hgrow1
  go_wp2_with (refine wpList_copy_splice rfl (.tmp 24) (.tmp 26) 23 23 rfl 5 Try.underlying23 u8_size _ _ n n _ _ rfl rfl w.heap.size 0 ((List.replicate n 0).map V8) 5 HBLK.out (zs.map V8) (by simp [hlen.out]) (fun _ => ⟨rfl, _, rfl, by have := HCS.out; rw [if_neg (by omega)] at this; simpa [Addr.add] using this.cells⟩) (by simp [hlen.out]) (bytes_oneCell zs) w.heap.size w HBS.out (Nat.le_refl _) ?_)
  intro w2 HG2 hB2
  have hc2' : w2.cell? ⟨b, off, none⟩ = some (.int .u8 (p : Int)) := (hB2.cell (p := ⟨b, off, none⟩) (Nat.lt_of_lt_of_le hbB hB)).trans hc0
  have HB2 := Lib.hid hB2
  have HO := Lib.hid (key_fin hlen.out hby.out (by omega) (by simpa using HG2.out))
  clear hB2 HG2 hc0
  go_wp2
  go_ret3
  exact ⟨_, _, rfl, HO.out, HB2.out⟩


theorem parts_ok (w : World) (B : Nat) (A : Option Addr) (n c p : Nat) (zs : List Nat) (h : Arg w B A (n + 1) c (p :: zs)) (hB : B ≤ w.heap.size) (hp : p < 32) (hn : n ≤ 255) :
    Calls Try.prog 39 #[.slice A (n + 1) c] w (KeyEnd w p zs n) := by
  have hle := h.le
  rcases Nat.eq_zero_or_pos n with h0 | h0
  · subst h0
    rcases Nat.lt_or_ge c 2 with h1 | h1
    · obtain rfl : c = 1 := by omega
      exact parts_tight w B A p zs h hB hp
    · exact parts_loose w B A c p zs h hB hp h1
  · exact parts_more w B A n c p zs h hB hp h0 hn hle

theorem Arg.drew {w : World} {B n c : Nat} {A : Option Addr} {zs : List Nat} (h : Arg w B A n c zs) : Arg w.drew B A n c zs := ⟨h.len, h.le, h.cap, h.byte, h.none_, h.at_⟩

end Go.Proofs.Ytnkecjjfbllgdaa
