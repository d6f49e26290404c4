/- Contract: DocDecode of the document. -/
import Derived.Test.YtndgladfcogiiaaTokJ
namespace Go.Proofs.Ytndgladfcogiiaa
open Go.RowKit
set_option maxRecDepth 100000
set_option linter.unusedVariables false

theorem docDecode_long (w : World) (A : Option Addr) (n c : Nat) (hn : 4096 < n) :
    Calls Try.prog 27 #[.slice A n c] w (ValEnd w (.tuple #[Tok0, .int .i64 2])) := by
  go_enter Try.func27, Try.ntmps27
  go_wp2
  exact bodyPost_ret (v := .tuple #[Tok0, .int .i64 2]) (by simp [results, Try.results27, go_sem]) rfl ⟨rfl, (Below.refl _ _).alloc (Nat.le_refl _) _⟩

theorem docDecode_short (w : World) (A : Option Addr) (n c : Nat) (hn : n < 16) :
    Calls Try.prog 27 #[.slice A n c] w (ValEnd w (.tuple #[Tok0, .int .i64 3])) := by
  have q1 : decide ((n : Int) < 16) = true := decide_eq_true (by omega)
  have q2 : decide ((4096 : Int) < (n : Int)) = false := decide_eq_false (by omega)
  go_enter Try.func27, Try.ntmps27
  go_wp2
  exact bodyPost_ret (v := .tuple #[Tok0, .int .i64 3]) (by simp [results, Try.results27, go_sem]) rfl ⟨rfl, (Below.refl _ _).alloc (Nat.le_refl _) _⟩

set_option maxHeartbeats 800000 in
theorem docDecode_shape (w : World) (B : Nat) (A : Option Addr) (n c m : Nat) (zs : List Nat) (h : Arg w B A n c zs) (hB : B ≤ w.heap.size) (hn : 16 ≤ n) (hn2 : n ≤ 4096) (h3 : zs.getD 3 0 = m) (hm : n ≠ m + 16) :
    Calls Try.prog 27 #[.slice A n c] w (ValEnd w (.tuple #[Tok0, .int .i64 3])) := by
  have hb3 := h.lt 3
  rw [h3] at hb3
  obtain ⟨b, off, rfl, hbB, hc⟩ := h.at_ (by omega)
  have hc3 : w.cell? ⟨b, off + 3, none⟩ = some (.int .u8 (m : Int)) := by rw [hc 3 (by omega), h3]
  have hcap := h.cap
  have hle := h.le
  unfold maxLen at hcap
  clear h hc h3
  have q0 : decide ((4096 : Int) < (n : Int)) = false := decide_eq_false (by omega)
  have q1 : decide ((n : Int) < 16) = false := decide_eq_false (by omega)
  have q2 : ((n : Int) != 16 + (m : Int)) = true := by simp; omega
  have hw : IntKind.i64.wrap (m : Int) = (m : Int) := IntWalk.i64_in _ (by omega)
  have hbw : b < w.heap.size := by omega
  go_enter Try.func27, Try.ntmps27
  go_wp2
  exact bodyPost_ret (v := .tuple #[Tok0, .int .i64 3]) (by simp [results, Try.results27, go_sem]) rfl ⟨rfl, (Below.refl _ _).alloc (Nat.le_refl _) _⟩

set_option maxHeartbeats 1600000 in
theorem docDecode_pol (w : World) (B : Nat) (A : Option Addr) (n c p : Nat) (zs : List Nat) (h : Arg w B A (n + 16) c zs) (hB : B ≤ w.heap.size) (h3 : zs.getD 3 0 = n) (h2 : zs.getD 2 0 = p) (hp : 32 ≤ p) :
    Calls Try.prog 27 #[.slice A (n + 16) c] w (ValEnd w (.tuple #[Tok0, .int .i64 3])) := by
  have hle := h.le
  have hb3 := h.lt 3
  have hb2 := h.lt 2
  rw [h3] at hb3
  rw [h2] at hb2
  have hall := h
  have hkey := (h.from_ (k := 4) (by omega))
  have hrest := (h.from_ (k := 4 + n) (by omega))
  obtain ⟨b, off, rfl, hbB, hc⟩ := h.at_ (by omega)
  rw [if_neg (by omega)] at hkey hrest
  simp only [Option.map_some, Addr.add] at hkey hrest
  rw [if_neg (by omega : ¬ 4 = 0)] at hkey
  rw [if_neg (by omega : ¬ 4 + n = 0)] at hrest
  have hkey := hkey.take (k := n) (by omega)
  have hrest := hrest.take (k := 8) (by omega)
  have hc3 : w.cell? ⟨b, off + 3, none⟩ = some (.int .u8 (n : Int)) := by rw [hc 3 (by omega), h3]
  have hc2 : w.cell? ⟨b, off + 2, none⟩ = some (.int .u8 (p : Int)) := by rw [hc 2 (by omega), h2]
  have HZ := Lib.hid (hall.more hB)
  have HKEY := Lib.hid (hkey.more hB)
  have HREST := Lib.hid (hrest.more hB)
  have hcap := h.cap
  unfold maxLen at hcap
  clear h hc h3 h2 hkey hrest hall
  have q0 : decide ((4096 : Int) < (n : Int) + 16) = false := decide_eq_false (by omega)
  have q1 : decide ((n : Int) + 16 < 16) = false := decide_eq_false (by omega)
  have q2 : ((n : Int) + 16 != 16 + (n : Int)) = false := by simp; omega
  have hw : IntKind.i64.wrap (n : Int) = (n : Int) := IntWalk.i64_in _ (by omega)
  have hwp : IntKind.i64.wrap (p : Int) = (p : Int) := IntWalk.i64_in _ (by omega)
  have hbw : b < w.heap.size := by omega
  have q3 : decide ((32 : Int) ≤ (p : Int)) = true := decide_eq_true (by omega)
  go_enter Try.func27, Try.ntmps27
  go_wp2
  exact bodyPost_ret (v := .tuple #[Tok0, .int .i64 3]) (by simp [results, Try.results27, go_sem]) rfl ⟨rfl, (Below.refl _ _).alloc (Nat.le_refl _) _⟩

set_option maxHeartbeats 1600000 in
theorem docDecode_low (w : World) (B : Nat) (A : Option Addr) (n c p : Nat) (zs : List Nat) (h : Arg w B A (n + 16) c zs) (hB : B ≤ w.heap.size) (h3 : zs.getD 3 0 = n) (h2 : zs.getD 2 0 = p) (s : Nat) (hs : Tk.numV ((zs.drop (4 + n)).take 8) = s) (hp : p < 32) (hs0 : s = 0) :
    Calls Try.prog 27 #[.slice A (n + 16) c] w (ValEnd w (.tuple #[Tok0, .int .i64 3])) := by
  have hle := h.le
  have hb3 := h.lt 3
  have hb2 := h.lt 2
  rw [h3] at hb3
  rw [h2] at hb2
  have hall := h
  have hkey := (h.from_ (k := 4) (by omega))
  have hrest := (h.from_ (k := 4 + n) (by omega))
  obtain ⟨b, off, rfl, hbB, hc⟩ := h.at_ (by omega)
  rw [if_neg (by omega)] at hkey hrest
  simp only [Option.map_some, Addr.add] at hkey hrest
  rw [if_neg (by omega : ¬ 4 = 0)] at hkey
  rw [if_neg (by omega : ¬ 4 + n = 0)] at hrest
  have hkey := hkey.take (k := n) (by omega)
  have hrest := hrest.take (k := 8) (by omega)
  have hc3 : w.cell? ⟨b, off + 3, none⟩ = some (.int .u8 (n : Int)) := by rw [hc 3 (by omega), h3]
  have hc2 : w.cell? ⟨b, off + 2, none⟩ = some (.int .u8 (p : Int)) := by rw [hc 2 (by omega), h2]
  have HZ := Lib.hid (hall.more hB)
  have HKEY := Lib.hid (hkey.more hB)
  have HREST := Lib.hid (hrest.more hB)
  have hcap := h.cap
  unfold maxLen at hcap
  clear h hc h3 h2 hkey hrest hall
  have q0 : decide ((4096 : Int) < (n : Int) + 16) = false := decide_eq_false (by omega)
  have q1 : decide ((n : Int) + 16 < 16) = false := decide_eq_false (by omega)
  have q2 : ((n : Int) + 16 != 16 + (n : Int)) = false := by simp; omega
  have hw : IntKind.i64.wrap (n : Int) = (n : Int) := IntWalk.i64_in _ (by omega)
  have hwp : IntKind.i64.wrap (p : Int) = (p : Int) := IntWalk.i64_in _ (by omega)
  have hbw : b < w.heap.size := by omega
  have q3 : decide ((32 : Int) ≤ (p : Int)) = false := decide_eq_false (by omega)
  have q4 : decide ((4 : Int) + (n : Int) ≤ 4 + (n : Int) + 8) = true := decide_eq_true (by omega)
  have HNUM : Hid (∀ w', Below w.heap.size w w' → Calls Try.prog 76 #[.slice (some ⟨b, off + (4 + n), none⟩) 8 (c - (4 + n))] w' fun e w'' => e = .returned (.int .u64 (s : Int)) ∧ w' = w'') := Lib.hid fun w' hb => by
    rw [← hs]
    exact number7_any w' w.heap.size _ 8 _ _ (by omega) (HREST.out.below hb)
  clear hs HREST
  go_enter Try.func27, Try.ntmps27
  go_wp2_with fail
  have hS : 4 + n + 8 - (4 + n) = 8 := by omega
  rw [hS]
  with_reducible refine (HNUM.out _ ((Below.refl w.heap.size w).alloc (Nat.le_refl _) _)).mono ?_
  rintro e w1 ⟨rfl, rfl⟩
  clear hS
  have q5 : decide ((s : Int) < 1) = true := decide_eq_true (by omega)
  go_wp2
  exact bodyPost_ret (v := .tuple #[Tok0, .int .i64 3]) (by simp [results, Try.results27, go_sem]) rfl ⟨rfl, (Below.refl _ _).alloc (Nat.le_refl _) _⟩

set_option maxHeartbeats 1600000 in
theorem docDecode_high (w : World) (B : Nat) (A : Option Addr) (n c p : Nat) (zs : List Nat) (h : Arg w B A (n + 16) c zs) (hB : B ≤ w.heap.size) (h3 : zs.getD 3 0 = n) (h2 : zs.getD 2 0 = p) (s : Nat) (hs : Tk.numV ((zs.drop (4 + n)).take 8) = s) (hp : p < 32) (hs0 : 4611686018427387903 < s) :
    Calls Try.prog 27 #[.slice A (n + 16) c] w (ValEnd w (.tuple #[Tok0, .int .i64 3])) := by
  have hle := h.le
  have hb3 := h.lt 3
  have hb2 := h.lt 2
  rw [h3] at hb3
  rw [h2] at hb2
  have hall := h
  have hkey := (h.from_ (k := 4) (by omega))
  have hrest := (h.from_ (k := 4 + n) (by omega))
  obtain ⟨b, off, rfl, hbB, hc⟩ := h.at_ (by omega)
  rw [if_neg (by omega)] at hkey hrest
  simp only [Option.map_some, Addr.add] at hkey hrest
  rw [if_neg (by omega : ¬ 4 = 0)] at hkey
  rw [if_neg (by omega : ¬ 4 + n = 0)] at hrest
  have hkey := hkey.take (k := n) (by omega)
  have hrest := hrest.take (k := 8) (by omega)
  have hc3 : w.cell? ⟨b, off + 3, none⟩ = some (.int .u8 (n : Int)) := by rw [hc 3 (by omega), h3]
  have hc2 : w.cell? ⟨b, off + 2, none⟩ = some (.int .u8 (p : Int)) := by rw [hc 2 (by omega), h2]
  have HZ := Lib.hid (hall.more hB)
  have HKEY := Lib.hid (hkey.more hB)
  have HREST := Lib.hid (hrest.more hB)
  have hcap := h.cap
  unfold maxLen at hcap
  clear h hc h3 h2 hkey hrest hall
  have q0 : decide ((4096 : Int) < (n : Int) + 16) = false := decide_eq_false (by omega)
  have q1 : decide ((n : Int) + 16 < 16) = false := decide_eq_false (by omega)
  have q2 : ((n : Int) + 16 != 16 + (n : Int)) = false := by simp; omega
  have hw : IntKind.i64.wrap (n : Int) = (n : Int) := IntWalk.i64_in _ (by omega)
  have hwp : IntKind.i64.wrap (p : Int) = (p : Int) := IntWalk.i64_in _ (by omega)
  have hbw : b < w.heap.size := by omega
  have q3 : decide ((32 : Int) ≤ (p : Int)) = false := decide_eq_false (by omega)
  have q4 : decide ((4 : Int) + (n : Int) ≤ 4 + (n : Int) + 8) = true := decide_eq_true (by omega)
  have HNUM : Hid (∀ w', Below w.heap.size w w' → Calls Try.prog 76 #[.slice (some ⟨b, off + (4 + n), none⟩) 8 (c - (4 + n))] w' fun e w'' => e = .returned (.int .u64 (s : Int)) ∧ w' = w'') := Lib.hid fun w' hb => by
    rw [← hs]
    exact number7_any w' w.heap.size _ 8 _ _ (by omega) (HREST.out.below hb)
  clear hs HREST
  go_enter Try.func27, Try.ntmps27
  go_wp2_with fail
  have hS : 4 + n + 8 - (4 + n) = 8 := by omega
  rw [hS]
  with_reducible refine (HNUM.out _ ((Below.refl w.heap.size w).alloc (Nat.le_refl _) _)).mono ?_
  rintro e w1 ⟨rfl, rfl⟩
  clear hS
  have q5 : decide ((s : Int) < 1) = false := decide_eq_false (by omega)
  have q6 : decide ((4611686018427387903 : Int) < (s : Int)) = true := decide_eq_true (by omega)
  go_wp2
  exact bodyPost_ret (v := .tuple #[Tok0, .int .i64 3]) (by simp [results, Try.results27, go_sem]) rfl ⟨rfl, (Below.refl _ _).alloc (Nat.le_refl _) _⟩

set_option maxHeartbeats 1600000 in
theorem docDecode_other (w : World) (B : Nat) (A : Option Addr) (n c p : Nat) (zs : List Nat) (h : Arg w B A (n + 16) c zs) (hB : B ≤ w.heap.size) (h3 : zs.getD 3 0 = n) (h2 : zs.getD 2 0 = p) (s : Nat) (hs : Tk.numV ((zs.drop (4 + n)).take 8) = s) (hp : p < 32) (hs1 : 1 ≤ s) (hs2 : s ≤ 4611686018427387903) (HE : Hid (decide (tokV p ((zs.drop 4).take n) s = zs) = false)) :
    Calls Try.prog 27 #[.slice A (n + 16) c] w (ValEnd w (.tuple #[Tok0, .int .i64 3])) := by
  have hle := h.le
  have hb3 := h.lt 3
  have hb2 := h.lt 2
  rw [h3] at hb3
  rw [h2] at hb2
  have hall := h
  have hkey := (h.from_ (k := 4) (by omega))
  have hrest := (h.from_ (k := 4 + n) (by omega))
  obtain ⟨b, off, rfl, hbB, hc⟩ := h.at_ (by omega)
  rw [if_neg (by omega)] at hkey hrest
  simp only [Option.map_some, Addr.add] at hkey hrest
  rw [if_neg (by omega : ¬ 4 = 0)] at hkey
  rw [if_neg (by omega : ¬ 4 + n = 0)] at hrest
  have hkey := hkey.take (k := n) (by omega)
  have hrest := hrest.take (k := 8) (by omega)
  have hc3 : w.cell? ⟨b, off + 3, none⟩ = some (.int .u8 (n : Int)) := by rw [hc 3 (by omega), h3]
  have hc2 : w.cell? ⟨b, off + 2, none⟩ = some (.int .u8 (p : Int)) := by rw [hc 2 (by omega), h2]
  have HZ := Lib.hid (hall.more hB)
  have HKEY := Lib.hid (hkey.more hB)
  have HREST := Lib.hid (hrest.more hB)
  have hcap := h.cap
  unfold maxLen at hcap
  clear h hc h3 h2 hkey hrest hall
  have q0 : decide ((4096 : Int) < (n : Int) + 16) = false := decide_eq_false (by omega)
  have q1 : decide ((n : Int) + 16 < 16) = false := decide_eq_false (by omega)
  have q2 : ((n : Int) + 16 != 16 + (n : Int)) = false := by simp; omega
  have hw : IntKind.i64.wrap (n : Int) = (n : Int) := IntWalk.i64_in _ (by omega)
  have hwp : IntKind.i64.wrap (p : Int) = (p : Int) := IntWalk.i64_in _ (by omega)
  have hbw : b < w.heap.size := by omega
  have q3 : decide ((32 : Int) ≤ (p : Int)) = false := decide_eq_false (by omega)
  have q4 : decide ((4 : Int) + (n : Int) ≤ 4 + (n : Int) + 8) = true := decide_eq_true (by omega)
  have HNUM : Hid (∀ w', Below w.heap.size w w' → Calls Try.prog 76 #[.slice (some ⟨b, off + (4 + n), none⟩) 8 (c - (4 + n))] w' fun e w'' => e = .returned (.int .u64 (s : Int)) ∧ w' = w'') := Lib.hid fun w' hb => by
    rw [← hs]
    exact number7_any w' w.heap.size _ 8 _ _ (by omega) (HREST.out.below hb)
  clear hs HREST
  go_enter Try.func27, Try.ntmps27
  go_wp2_with fail
  have hS : 4 + n + 8 - (4 + n) = 8 := by omega
  rw [hS]
  with_reducible refine (HNUM.out _ ((Below.refl w.heap.size w).alloc (Nat.le_refl _) _)).mono ?_
  rintro e w1 ⟨rfl, rfl⟩
  clear hS
  have q5 : decide ((s : Int) < 1) = false := decide_eq_false (by omega)
  have q6 : decide ((4611686018427387903 : Int) < (s : Int)) = false := decide_eq_false (by omega)
  have i2 : (2 : Int) < (n : Int) + 16 := by omega
  have i2' : ¬ (n + 16 ≤ 2) := by omega
  have i4 : (4 : Int) ≤ 4 + (n : Int) := by omega
  have i5 : (4 : Int) + (n : Int) ≤ (c : Int) := by omega
  have i6 : ((4 : Int) + (n : Int)).toNat = 4 + n := by omega
  have i7 : ¬ (c < 4 + n) := by omega
  have i9 : (0 : Int) ≤ 4 + (n : Int) := by omega
  have i10 : ¬ c = 4 := by omega
  have hws : IntKind.i64.wrap (s : Int) = (s : Int) := IntWalk.i64_in _ (by omega)
  go_wp2
  have b1 := ((Below.refl w.heap.size w).alloc (Nat.le_refl _) (.cells #[.int .i64 0, .slice none 0 0, .int .i64 0] 24)).drew
  have b0 := (((Below.refl w.heap.size w).alloc (Nat.le_refl _) (.cells #[.int .i64 0, .slice none 0 0, .int .i64 0] 24)).alloc (by simp) (.cells #[.int .i64 0, .slice none 0 0, .int .i64 0] 24)).drew
  have kr1 := (BlkL.new w [.int .i64 0, .slice none 0 0, .int .i64 0] 24).drew
  have kr := ((BlkL.new w [.int .i64 0, .slice none 0 0, .int .i64 0] 24).alloc (.cells #[.int .i64 0, .slice none 0 0, .int .i64 0] 24)).drew
  have kt := (BlkL.new (w.alloc (.cells #[.int .i64 0, .slice none 0 0, .int .i64 0] 24)) [.int .i64 0, .slice none 0 0, .int .i64 0] 24).drew
  simp only [World.size_alloc] at kt
  have hcb : ((w.alloc (.cells #[.int .i64 0, .slice none 0 0, .int .i64 0] 24)).alloc (.cells #[.int .i64 0, .slice none 0 0, .int .i64 0] 24)).drew.cell? ⟨b, off + 2, none⟩ = some (.int .u8 (p : Int)) := (b0.cell (p := ⟨b, off + 2, none⟩) hbw).trans hc2
  have hcb1 : (w.alloc (.cells #[.int .i64 0, .slice none 0 0, .int .i64 0] 24)).drew.cell? ⟨b, off + 2, none⟩ = some (.int .u8 (p : Int)) := (b1.cell (p := ⟨b, off + 2, none⟩) hbw).trans hc2
  have htw : Calls Try.prog 77 #[.slice (some ⟨b, off + 4, none⟩) n (c - 4)] ((w.alloc (.cells #[.int .i64 0, .slice none 0 0, .int .i64 0] 24)).alloc (.cells #[.int .i64 0, .slice none 0 0, .int .i64 0] 24)).drew (fun e w2 => ∃ A' c', e = .returned (.slice A' n c') ∧ OwnB w2 (w.heap.size + 2) A' n c' ((zs.drop 4).take n) ∧ Below w.heap.size w w2 ∧ w2.cell? ⟨b, off + 2, none⟩ = some (.int .u8 (p : Int)) ∧ BlkL w2 w.heap.size [.int .i64 0, .slice none 0 0, .int .i64 0] ∧ BlkL w2 (w.heap.size + 1) [.int .i64 0, .slice none 0 0, .int .i64 0]) :=
    (twin_any _ w.heap.size (some ⟨b, off + 4, none⟩) n (c - 4) _ (HKEY.out.below b0) (by simp; omega) (by omega)).mono (fun e w2 ⟨A', c', e1, ho, hb⟩ =>
      ⟨A', c', e1, ho.mono (by simp), b0.trans (hb.mono (by simp; omega)), (hb.cell (p := ⟨b, off + 2, none⟩) (by simp; omega)).trans hcb, kr.below hb, kt.below hb⟩)
  have htw1 : Calls Try.prog 77 #[.slice (some ⟨b, off + 4, none⟩) n (c - 4)] (w.alloc (.cells #[.int .i64 0, .slice none 0 0, .int .i64 0] 24)).drew (fun e w2 => ∃ A' c', e = .returned (.slice A' n c') ∧ OwnB w2 (w.heap.size + 1) A' n c' ((zs.drop 4).take n) ∧ Below w.heap.size w w2 ∧ w2.cell? ⟨b, off + 2, none⟩ = some (.int .u8 (p : Int)) ∧ BlkL w2 w.heap.size [.int .i64 0, .slice none 0 0, .int .i64 0]) :=
    (twin_any _ w.heap.size (some ⟨b, off + 4, none⟩) n (c - 4) _ (HKEY.out.below b1) (by simp) (by omega)).mono (fun e w2 ⟨A', c', e1, ho, hb⟩ =>
      ⟨A', c', e1, ho.mono (by simp), b1.trans (hb.mono (by simp)), (hb.cell (p := ⟨b, off + 2, none⟩) (by simp; omega)).trans hcb1, kr1.below hb⟩)
  have hne1 : ¬ w.heap.size + 1 = b := by omega
  have hne2 : w.heap.size + 1 ≠ b := by omega
  have hne3 : b ≠ w.heap.size + 1 := by omega
  have hne4 : w.heap.size ≠ b := by omega
  have HTW := Lib.hid htw
  have HTW1 := Lib.hid htw1
  have e4 : 4 + n - 4 = n := by omega
  clear htw htw1 b0 b1 kr kr1 kt HKEY HNUM hcb hcb1
  go_region_held3 (fun w' => w'.cell? ⟨b, off + 2, none⟩ = some (.int .u8 (p : Int))) (first | go_keep | (rw [World.cell?_setCell_other _ _ _ _ hx, World.cell?_setCell_other _ _ _ _ hx, World.cell?_setCell_other _ _ _ _ hx]; exact hc2') | (simp [World.cell?_setCell_other, hne1, hne2]; exact hc2'))
    (first
    | ((with_reducible refine HTW.out.mono ?_); rintro e w2 ⟨A1, c1, rfl, ho, hb, hc2', kr2, kt2⟩; have HO2 := Lib.hid ho; have HB2 := Lib.hid hb; have KR2 := Lib.hid kr2; have KT2 := Lib.hid kt2; have zz := kr2.lt; have zk := kt2.lt; have g0 := kt2.cell 0 _ rfl; have g1 := kt2.cell 1 _ rfl; have g2 := kt2.cell 2 _ rfl; have h0 := kt2.froz 0 (by simp); have h1 := kt2.froz 1 (by simp); have h2 := kt2.froz 2 (by simp); clear ho hb kr2 kt2)
    | ((with_reducible refine HTW1.out.mono ?_); rintro e w2 ⟨A1, c1, rfl, ho, hb, hc2', kr2⟩; have HO2 := Lib.hid ho; have HB2 := Lib.hid hb; have KR2 := Lib.hid kr2; have zz := kr2.lt; clear ho hb kr2))
  all_goals
    first
      | (have tok2 := KT2
         have kr := ((KR2.out.other (w.heap.size + 1) 0 (.int .i64 (p : Int)) (by omega)).other (w.heap.size + 1) 1 (.slice A1 n c1) (by omega)).other (w.heap.size + 1) 2 (.int .i64 (s : Int)) (by omega)
         have kt := KT2.out.put3 (.int .i64 (p : Int)) (.slice A1 n c1) (.int .i64 (s : Int))
         have hb1 := below_put3 HB2.out (b := w.heap.size + 1) (by omega) (.int .i64 (p : Int)) (.slice A1 n c1) (.int .i64 (s : Int))
         have ho1 := ((HO2.out.other (b := w.heap.size + 1) (i := 0) (v := .int .i64 (p : Int)) (by omega)).other (b := w.heap.size + 1) (i := 1) (v := .slice A1 n c1) (by omega)).other (b := w.heap.size + 1) (i := 2) (v := .int .i64 (s : Int)) (by omega)
         have hz1 := HZ.out.below hb1
         obtain ⟨wx, hwx⟩ : ∃ x, x = ((w2.setCell ⟨w.heap.size + 1, 0, none⟩ (.int .i64 (p : Int))).setCell ⟨w.heap.size + 1, 1, none⟩ (.slice A1 n c1)).setCell ⟨w.heap.size + 1, 2, none⟩ (.int .i64 (s : Int)) := ⟨_, rfl⟩
         rw [← hwx] at kr kt hb1 ho1 hz1
         rw [← hwx]
         clear hwx g0 g1 g2 h0 h1 h2 hc2' hc2 hc3
         obtain ⟨ga, hga⟩ : ∃ x, x = w.heap.size + 1 := ⟨_, rfl⟩
         rw [← hga] at kt
         rw [← hga]
         have hgw : w.heap.size < ga := by omega
         have ho1 := ho1.mono (B' := w.heap.size + 1) (by omega)
         clear hga
         have g0 := kt.cell 0 _ rfl
         have g1 := kt.cell 1 _ rfl
         have g2 := kt.cell 2 _ rfl
         have zx := kt.lt
         have HZ1 := Lib.hid hz1
         have HO1 := Lib.hid ho1
         have HB1 := Lib.hid hb1
         have KR := Lib.hid kr
         have KT := Lib.hid kt
         clear kr kt hb1 ho1 hz1
         go_wp2_with fail
         with_reducible refine (encode7_any _ _ p s A1 n c1 _ HO1.out.arg (Nat.le_refl _) hp hs1 hs2 (by omega)).mono ?_
         rintro e w3 ⟨A3, c3, rfl, ho3, hb3'⟩
         clear g0 g1 g2
         have hbb := HB1.out.trans (hb3'.mono (by omega))
         have HB3 := Lib.hid hbb
         have KR3 := Lib.hid (KR.out.keep hb3' (by omega))
         have KT3 := Lib.hid (KT.out.keep hb3' (by omega))
         have HA3 := Lib.hid ho3.arg
         have HZ3 := Lib.hid (HZ1.out.keep hb3' (by omega))
         have HO3 := Lib.hid (HO1.out.below hb3')
         clear KR KT HB1 HZ1 HO1 ho3 hb3' hbb
         go_wp2_with fail
         with_reducible refine (same_any _ w3.heap.size w.heap.size A3 (some ⟨b, off, none⟩) (n + 16) c3 (n + 16) c _ zs false HE.out HA3.out HZ3.out).mono ?_
         rintro e w4 ⟨rfl, t, rfl⟩
         have kr := KR3.out.drewN t
         have kt := KT3.out.drewN t
         have bz := kr.put3 (.int .i64 0) (.slice none 0 0) (.int .i64 0)
         have hbz := below_put3 (below_drewN HB3.out t) (b := w.heap.size) (Nat.le_refl _) (.int .i64 0) (.slice none 0 0) (.int .i64 0)
         have y0 := bz.cell 0 _ rfl
         have y1 := bz.cell 1 _ rfl
         have y2 := bz.cell 2 _ rfl
         have f0 := kr.froz 0 (by simp)
         have f1 := kr.froz 1 (by simp)
         have f2 := kr.froz 2 (by simp)
         have x0 := kr.cell 0 _ rfl
         have x1 := kr.cell 1 _ rfl
         have x2 := kr.cell 2 _ rfl
         have t0 := kt.cell 0 _ rfl
         have t1 := kt.cell 1 _ rfl
         have t2 := kt.cell 2 _ rfl
         have zt := kt.lt
         have zr := kr.lt
         clear kr bz kt
         go_wp2
         exact bodyPost_ret (v := .tuple #[.agg #[.int .i64 0, .slice none 0 0, .int .i64 0], .int .i64 3]) (by simp [results, Try.results27, go_sem, y0, y1, y2]) rfl ⟨rfl, hbz⟩)
      | (have kr := KR2.out.alloc (.cells (tokB p s A1 n c1).toArray 24)
         have kt := BlkL.new w2 (tokB p s A1 n c1) 24
         have hb1 := HB2.out.alloc (by omega) (.cells (tokB p s A1 n c1).toArray 24)
         have ho1 := HO2.out.below ((Below.refl _ w2).alloc (Nat.le_refl _) (.cells (tokB p s A1 n c1).toArray 24))
         have hz1 := HZ.out.below hb1
         obtain ⟨wx, hwx⟩ : ∃ x, x = w2.alloc (.cells #[.int .i64 (p : Int), .slice A1 n c1, .int .i64 (s : Int)] 24) := ⟨_, rfl⟩
         have kr : BlkL wx w.heap.size [.int .i64 0, .slice none 0 0, .int .i64 0] := by rw [hwx]; exact kr
         have kt : BlkL wx w2.heap.size (tokB p s A1 n c1) := by rw [hwx]; exact kt
         have hb1 : Below w.heap.size w wx := by rw [hwx]; exact hb1
         have ho1 : OwnB wx (w.heap.size + 1) A1 n c1 ((zs.drop 4).take n) := by rw [hwx]; exact ho1
         have hz1 : Arg wx w.heap.size (some ⟨b, off, none⟩) (n + 16) c zs := by rw [hwx]; exact hz1
         rw [← hwx]
         clear hwx hc2' hc2 hc3
         obtain ⟨ga, hga⟩ : ∃ x, x = w2.heap.size := ⟨_, rfl⟩
         rw [← hga] at kt
         rw [← hga]
         have hgw : w.heap.size < ga := by omega
         clear hga
         have g0 := kt.cell 0 _ rfl
         have g1 := kt.cell 1 _ rfl
         have g2 := kt.cell 2 _ rfl
         have zx := kt.lt
         have HZ1 := Lib.hid hz1
         have HO1 := Lib.hid ho1
         have HB1 := Lib.hid hb1
         have KR := Lib.hid kr
         have KT := Lib.hid kt
         clear kr kt hb1 ho1 hz1
         go_wp2_with fail
         with_reducible refine (encode7_any _ _ p s A1 n c1 _ HO1.out.arg (Nat.le_refl _) hp hs1 hs2 (by omega)).mono ?_
         rintro e w3 ⟨A3, c3, rfl, ho3, hb3'⟩
         clear g0 g1 g2
         have hbb := HB1.out.trans (hb3'.mono (by omega))
         have HB3 := Lib.hid hbb
         have KR3 := Lib.hid (KR.out.keep hb3' (by omega))
         have KT3 := Lib.hid (KT.out.keep hb3' (by omega))
         have HA3 := Lib.hid ho3.arg
         have HZ3 := Lib.hid (HZ1.out.keep hb3' (by omega))
         have HO3 := Lib.hid (HO1.out.below hb3')
         clear KR KT HB1 HZ1 HO1 ho3 hb3' hbb
         go_wp2_with fail
         with_reducible refine (same_any _ w3.heap.size w.heap.size A3 (some ⟨b, off, none⟩) (n + 16) c3 (n + 16) c _ zs false HE.out HA3.out HZ3.out).mono ?_
         rintro e w4 ⟨rfl, t, rfl⟩
         have kr := KR3.out.drewN t
         have kt := KT3.out.drewN t
         have bz := kr.put3 (.int .i64 0) (.slice none 0 0) (.int .i64 0)
         have hbz := below_put3 (below_drewN HB3.out t) (b := w.heap.size) (Nat.le_refl _) (.int .i64 0) (.slice none 0 0) (.int .i64 0)
         have y0 := bz.cell 0 _ rfl
         have y1 := bz.cell 1 _ rfl
         have y2 := bz.cell 2 _ rfl
         have f0 := kr.froz 0 (by simp)
         have f1 := kr.froz 1 (by simp)
         have f2 := kr.froz 2 (by simp)
         have x0 := kr.cell 0 _ rfl
         have x1 := kr.cell 1 _ rfl
         have x2 := kr.cell 2 _ rfl
         have t0 := kt.cell 0 _ rfl
         have t1 := kt.cell 1 _ rfl
         have t2 := kt.cell 2 _ rfl
         have zt := kt.lt
         have zr := kr.lt
         clear kr bz kt
         go_wp2
         exact bodyPost_ret (v := .tuple #[.agg #[.int .i64 0, .slice none 0 0, .int .i64 0], .int .i64 3]) (by simp [results, Try.results27, go_sem, y0, y1, y2]) rfl ⟨rfl, hbz⟩)

set_option maxHeartbeats 1600000 in
theorem docDecode_same (w : World) (B : Nat) (A : Option Addr) (n c p : Nat) (zs : List Nat) (h : Arg w B A (n + 16) c zs) (hB : B ≤ w.heap.size) (h3 : zs.getD 3 0 = n) (h2 : zs.getD 2 0 = p) (s : Nat) (hs : Tk.numV ((zs.drop (4 + n)).take 8) = s) (hp : p < 32) (hs1 : 1 ≤ s) (hs2 : s ≤ 4611686018427387903) (HE : Hid (decide (tokV p ((zs.drop 4).take n) s = zs) = true)) :
    Calls Try.prog 27 #[.slice A (n + 16) c] w (TokEnd w p s ((zs.drop 4).take n) n) := by
  have hle := h.le
  have hb3 := h.lt 3
  have hb2 := h.lt 2
  rw [h3] at hb3
  rw [h2] at hb2
  have hall := h
  have hkey := (h.from_ (k := 4) (by omega))
  have hrest := (h.from_ (k := 4 + n) (by omega))
  obtain ⟨b, off, rfl, hbB, hc⟩ := h.at_ (by omega)
  rw [if_neg (by omega)] at hkey hrest
  simp only [Option.map_some, Addr.add] at hkey hrest
  rw [if_neg (by omega : ¬ 4 = 0)] at hkey
  rw [if_neg (by omega : ¬ 4 + n = 0)] at hrest
  have hkey := hkey.take (k := n) (by omega)
  have hrest := hrest.take (k := 8) (by omega)
  have hc3 : w.cell? ⟨b, off + 3, none⟩ = some (.int .u8 (n : Int)) := by rw [hc 3 (by omega), h3]
  have hc2 : w.cell? ⟨b, off + 2, none⟩ = some (.int .u8 (p : Int)) := by rw [hc 2 (by omega), h2]
  have HZ := Lib.hid (hall.more hB)
  have HKEY := Lib.hid (hkey.more hB)
  have HREST := Lib.hid (hrest.more hB)
  have hcap := h.cap
  unfold maxLen at hcap
  clear h hc h3 h2 hkey hrest hall
  have q0 : decide ((4096 : Int) < (n : Int) + 16) = false := decide_eq_false (by omega)
  have q1 : decide ((n : Int) + 16 < 16) = false := decide_eq_false (by omega)
  have q2 : ((n : Int) + 16 != 16 + (n : Int)) = false := by simp; omega
  have hw : IntKind.i64.wrap (n : Int) = (n : Int) := IntWalk.i64_in _ (by omega)
  have hwp : IntKind.i64.wrap (p : Int) = (p : Int) := IntWalk.i64_in _ (by omega)
  have hbw : b < w.heap.size := by omega
  have q3 : decide ((32 : Int) ≤ (p : Int)) = false := decide_eq_false (by omega)
  have q4 : decide ((4 : Int) + (n : Int) ≤ 4 + (n : Int) + 8) = true := decide_eq_true (by omega)
  have HNUM : Hid (∀ w', Below w.heap.size w w' → Calls Try.prog 76 #[.slice (some ⟨b, off + (4 + n), none⟩) 8 (c - (4 + n))] w' fun e w'' => e = .returned (.int .u64 (s : Int)) ∧ w' = w'') := Lib.hid fun w' hb => by
    rw [← hs]
    exact number7_any w' w.heap.size _ 8 _ _ (by omega) (HREST.out.below hb)
  clear hs HREST
  go_enter Try.func27, Try.ntmps27
  go_wp2_with fail
  have hS : 4 + n + 8 - (4 + n) = 8 := by omega
  rw [hS]
  with_reducible refine (HNUM.out _ ((Below.refl w.heap.size w).alloc (Nat.le_refl _) _)).mono ?_
  rintro e w1 ⟨rfl, rfl⟩
  clear hS
  have q5 : decide ((s : Int) < 1) = false := decide_eq_false (by omega)
  have q6 : decide ((4611686018427387903 : Int) < (s : Int)) = false := decide_eq_false (by omega)
  have i2 : (2 : Int) < (n : Int) + 16 := by omega
  have i2' : ¬ (n + 16 ≤ 2) := by omega
  have i4 : (4 : Int) ≤ 4 + (n : Int) := by omega
  have i5 : (4 : Int) + (n : Int) ≤ (c : Int) := by omega
  have i6 : ((4 : Int) + (n : Int)).toNat = 4 + n := by omega
  have i7 : ¬ (c < 4 + n) := by omega
  have i9 : (0 : Int) ≤ 4 + (n : Int) := by omega
  have i10 : ¬ c = 4 := by omega
  have hws : IntKind.i64.wrap (s : Int) = (s : Int) := IntWalk.i64_in _ (by omega)
  go_wp2
  have b1 := ((Below.refl w.heap.size w).alloc (Nat.le_refl _) (.cells #[.int .i64 0, .slice none 0 0, .int .i64 0] 24)).drew
  have b0 := (((Below.refl w.heap.size w).alloc (Nat.le_refl _) (.cells #[.int .i64 0, .slice none 0 0, .int .i64 0] 24)).alloc (by simp) (.cells #[.int .i64 0, .slice none 0 0, .int .i64 0] 24)).drew
  have kr1 := (BlkL.new w [.int .i64 0, .slice none 0 0, .int .i64 0] 24).drew
  have kr := ((BlkL.new w [.int .i64 0, .slice none 0 0, .int .i64 0] 24).alloc (.cells #[.int .i64 0, .slice none 0 0, .int .i64 0] 24)).drew
  have kt := (BlkL.new (w.alloc (.cells #[.int .i64 0, .slice none 0 0, .int .i64 0] 24)) [.int .i64 0, .slice none 0 0, .int .i64 0] 24).drew
  simp only [World.size_alloc] at kt
  have hcb : ((w.alloc (.cells #[.int .i64 0, .slice none 0 0, .int .i64 0] 24)).alloc (.cells #[.int .i64 0, .slice none 0 0, .int .i64 0] 24)).drew.cell? ⟨b, off + 2, none⟩ = some (.int .u8 (p : Int)) := (b0.cell (p := ⟨b, off + 2, none⟩) hbw).trans hc2
  have hcb1 : (w.alloc (.cells #[.int .i64 0, .slice none 0 0, .int .i64 0] 24)).drew.cell? ⟨b, off + 2, none⟩ = some (.int .u8 (p : Int)) := (b1.cell (p := ⟨b, off + 2, none⟩) hbw).trans hc2
  have htw : Calls Try.prog 77 #[.slice (some ⟨b, off + 4, none⟩) n (c - 4)] ((w.alloc (.cells #[.int .i64 0, .slice none 0 0, .int .i64 0] 24)).alloc (.cells #[.int .i64 0, .slice none 0 0, .int .i64 0] 24)).drew (fun e w2 => ∃ A' c', e = .returned (.slice A' n c') ∧ OwnB w2 (w.heap.size + 2) A' n c' ((zs.drop 4).take n) ∧ Below w.heap.size w w2 ∧ w2.cell? ⟨b, off + 2, none⟩ = some (.int .u8 (p : Int)) ∧ BlkL w2 w.heap.size [.int .i64 0, .slice none 0 0, .int .i64 0] ∧ BlkL w2 (w.heap.size + 1) [.int .i64 0, .slice none 0 0, .int .i64 0]) :=
    (twin_any _ w.heap.size (some ⟨b, off + 4, none⟩) n (c - 4) _ (HKEY.out.below b0) (by simp; omega) (by omega)).mono (fun e w2 ⟨A', c', e1, ho, hb⟩ =>
      ⟨A', c', e1, ho.mono (by simp), b0.trans (hb.mono (by simp; omega)), (hb.cell (p := ⟨b, off + 2, none⟩) (by simp; omega)).trans hcb, kr.below hb, kt.below hb⟩)
  have htw1 : Calls Try.prog 77 #[.slice (some ⟨b, off + 4, none⟩) n (c - 4)] (w.alloc (.cells #[.int .i64 0, .slice none 0 0, .int .i64 0] 24)).drew (fun e w2 => ∃ A' c', e = .returned (.slice A' n c') ∧ OwnB w2 (w.heap.size + 1) A' n c' ((zs.drop 4).take n) ∧ Below w.heap.size w w2 ∧ w2.cell? ⟨b, off + 2, none⟩ = some (.int .u8 (p : Int)) ∧ BlkL w2 w.heap.size [.int .i64 0, .slice none 0 0, .int .i64 0]) :=
    (twin_any _ w.heap.size (some ⟨b, off + 4, none⟩) n (c - 4) _ (HKEY.out.below b1) (by simp) (by omega)).mono (fun e w2 ⟨A', c', e1, ho, hb⟩ =>
      ⟨A', c', e1, ho.mono (by simp), b1.trans (hb.mono (by simp)), (hb.cell (p := ⟨b, off + 2, none⟩) (by simp; omega)).trans hcb1, kr1.below hb⟩)
  have hne1 : ¬ w.heap.size + 1 = b := by omega
  have hne2 : w.heap.size + 1 ≠ b := by omega
  have hne3 : b ≠ w.heap.size + 1 := by omega
  have hne4 : w.heap.size ≠ b := by omega
  have HTW := Lib.hid htw
  have HTW1 := Lib.hid htw1
  have e4 : 4 + n - 4 = n := by omega
  clear htw htw1 b0 b1 kr kr1 kt HKEY HNUM hcb hcb1
  go_region_held3 (fun w' => w'.cell? ⟨b, off + 2, none⟩ = some (.int .u8 (p : Int))) (first | go_keep | (rw [World.cell?_setCell_other _ _ _ _ hx, World.cell?_setCell_other _ _ _ _ hx, World.cell?_setCell_other _ _ _ _ hx]; exact hc2') | (simp [World.cell?_setCell_other, hne1, hne2]; exact hc2'))
    (first
    | ((with_reducible refine HTW.out.mono ?_); rintro e w2 ⟨A1, c1, rfl, ho, hb, hc2', kr2, kt2⟩; have HO2 := Lib.hid ho; have HB2 := Lib.hid hb; have KR2 := Lib.hid kr2; have KT2 := Lib.hid kt2; have zz := kr2.lt; have zk := kt2.lt; have g0 := kt2.cell 0 _ rfl; have g1 := kt2.cell 1 _ rfl; have g2 := kt2.cell 2 _ rfl; have h0 := kt2.froz 0 (by simp); have h1 := kt2.froz 1 (by simp); have h2 := kt2.froz 2 (by simp); clear ho hb kr2 kt2)
    | ((with_reducible refine HTW1.out.mono ?_); rintro e w2 ⟨A1, c1, rfl, ho, hb, hc2', kr2⟩; have HO2 := Lib.hid ho; have HB2 := Lib.hid hb; have KR2 := Lib.hid kr2; have zz := kr2.lt; clear ho hb kr2))
  all_goals
    first
      | (have tok2 := KT2
         have kr := ((KR2.out.other (w.heap.size + 1) 0 (.int .i64 (p : Int)) (by omega)).other (w.heap.size + 1) 1 (.slice A1 n c1) (by omega)).other (w.heap.size + 1) 2 (.int .i64 (s : Int)) (by omega)
         have kt := KT2.out.put3 (.int .i64 (p : Int)) (.slice A1 n c1) (.int .i64 (s : Int))
         have hb1 := below_put3 HB2.out (b := w.heap.size + 1) (by omega) (.int .i64 (p : Int)) (.slice A1 n c1) (.int .i64 (s : Int))
         have ho1 := ((HO2.out.other (b := w.heap.size + 1) (i := 0) (v := .int .i64 (p : Int)) (by omega)).other (b := w.heap.size + 1) (i := 1) (v := .slice A1 n c1) (by omega)).other (b := w.heap.size + 1) (i := 2) (v := .int .i64 (s : Int)) (by omega)
         have hz1 := HZ.out.below hb1
         obtain ⟨wx, hwx⟩ : ∃ x, x = ((w2.setCell ⟨w.heap.size + 1, 0, none⟩ (.int .i64 (p : Int))).setCell ⟨w.heap.size + 1, 1, none⟩ (.slice A1 n c1)).setCell ⟨w.heap.size + 1, 2, none⟩ (.int .i64 (s : Int)) := ⟨_, rfl⟩
         rw [← hwx] at kr kt hb1 ho1 hz1
         rw [← hwx]
         clear hwx g0 g1 g2 h0 h1 h2 hc2' hc2 hc3
         obtain ⟨ga, hga⟩ : ∃ x, x = w.heap.size + 1 := ⟨_, rfl⟩
         rw [← hga] at kt
         rw [← hga]
         have hgw : w.heap.size < ga := by omega
         have ho1 := ho1.mono (B' := w.heap.size + 1) (by omega)
         clear hga
         have g0 := kt.cell 0 _ rfl
         have g1 := kt.cell 1 _ rfl
         have g2 := kt.cell 2 _ rfl
         have zx := kt.lt
         have HZ1 := Lib.hid hz1
         have HO1 := Lib.hid ho1
         have HB1 := Lib.hid hb1
         have KR := Lib.hid kr
         have KT := Lib.hid kt
         clear kr kt hb1 ho1 hz1
         go_wp2_with fail
         with_reducible refine (encode7_any _ _ p s A1 n c1 _ HO1.out.arg (Nat.le_refl _) hp hs1 hs2 (by omega)).mono ?_
         rintro e w3 ⟨A3, c3, rfl, ho3, hb3'⟩
         clear g0 g1 g2
         have hbb := HB1.out.trans (hb3'.mono (by omega))
         have HB3 := Lib.hid hbb
         have KR3 := Lib.hid (KR.out.keep hb3' (by omega))
         have KT3 := Lib.hid (KT.out.keep hb3' (by omega))
         have HA3 := Lib.hid ho3.arg
         have HZ3 := Lib.hid (HZ1.out.keep hb3' (by omega))
         have HO3 := Lib.hid (HO1.out.below hb3')
         clear KR KT HB1 HZ1 HO1 ho3 hb3' hbb
         go_wp2_with fail
         with_reducible refine (same_any _ w3.heap.size w.heap.size A3 (some ⟨b, off, none⟩) (n + 16) c3 (n + 16) c _ zs true HE.out HA3.out HZ3.out).mono ?_
         rintro e w4 ⟨rfl, t, rfl⟩
         have kr := KR3.out.drewN t
         have kt := KT3.out.drewN t
         have bz := kr.put3 (.int .i64 (p : Int)) (.slice A1 n c1) (.int .i64 (s : Int))
         have hbz := below_put3 (below_drewN HB3.out t) (b := w.heap.size) (Nat.le_refl _) (.int .i64 (p : Int)) (.slice A1 n c1) (.int .i64 (s : Int))
         have hoz := (((HO3.out.drewN t).other (b := w.heap.size) (i := 0) (v := .int .i64 (p : Int)) (by omega)).other (b := w.heap.size) (i := 1) (v := .slice A1 n c1) (by omega)).other (b := w.heap.size) (i := 2) (v := .int .i64 (s : Int)) (by omega)
         have y0 := bz.cell 0 _ rfl
         have y1 := bz.cell 1 _ rfl
         have y2 := bz.cell 2 _ rfl
         have f0 := kr.froz 0 (by simp)
         have f1 := kr.froz 1 (by simp)
         have f2 := kr.froz 2 (by simp)
         have x0 := kr.cell 0 _ rfl
         have x1 := kr.cell 1 _ rfl
         have x2 := kr.cell 2 _ rfl
         have t0 := kt.cell 0 _ rfl
         have t1 := kt.cell 1 _ rfl
         have t2 := kt.cell 2 _ rfl
         have zt := kt.lt
         have zr := kr.lt
         clear kr bz kt
         go_wp2
         exact bodyPost_ret (v := .tuple #[.agg #[.int .i64 (p : Int), .slice A1 n c1, .int .i64 (s : Int)], .int .i64 0]) (by simp [results, Try.results27, go_sem, y0, y1, y2]) rfl ⟨A1, c1, rfl, hoz.mono (by omega), hbz⟩)
      | (have kr := KR2.out.alloc (.cells (tokB p s A1 n c1).toArray 24)
         have kt := BlkL.new w2 (tokB p s A1 n c1) 24
         have hb1 := HB2.out.alloc (by omega) (.cells (tokB p s A1 n c1).toArray 24)
         have ho1 := HO2.out.below ((Below.refl _ w2).alloc (Nat.le_refl _) (.cells (tokB p s A1 n c1).toArray 24))
         have hz1 := HZ.out.below hb1
         obtain ⟨wx, hwx⟩ : ∃ x, x = w2.alloc (.cells #[.int .i64 (p : Int), .slice A1 n c1, .int .i64 (s : Int)] 24) := ⟨_, rfl⟩
         have kr : BlkL wx w.heap.size [.int .i64 0, .slice none 0 0, .int .i64 0] := by rw [hwx]; exact kr
         have kt : BlkL wx w2.heap.size (tokB p s A1 n c1) := by rw [hwx]; exact kt
         have hb1 : Below w.heap.size w wx := by rw [hwx]; exact hb1
         have ho1 : OwnB wx (w.heap.size + 1) A1 n c1 ((zs.drop 4).take n) := by rw [hwx]; exact ho1
         have hz1 : Arg wx w.heap.size (some ⟨b, off, none⟩) (n + 16) c zs := by rw [hwx]; exact hz1
         rw [← hwx]
         clear hwx hc2' hc2 hc3
         obtain ⟨ga, hga⟩ : ∃ x, x = w2.heap.size := ⟨_, rfl⟩
         rw [← hga] at kt
         rw [← hga]
         have hgw : w.heap.size < ga := by omega
         clear hga
         have g0 := kt.cell 0 _ rfl
         have g1 := kt.cell 1 _ rfl
         have g2 := kt.cell 2 _ rfl
         have zx := kt.lt
         have HZ1 := Lib.hid hz1
         have HO1 := Lib.hid ho1
         have HB1 := Lib.hid hb1
         have KR := Lib.hid kr
         have KT := Lib.hid kt
         clear kr kt hb1 ho1 hz1
         go_wp2_with fail
         with_reducible refine (encode7_any _ _ p s A1 n c1 _ HO1.out.arg (Nat.le_refl _) hp hs1 hs2 (by omega)).mono ?_
         rintro e w3 ⟨A3, c3, rfl, ho3, hb3'⟩
         clear g0 g1 g2
         have hbb := HB1.out.trans (hb3'.mono (by omega))
         have HB3 := Lib.hid hbb
         have KR3 := Lib.hid (KR.out.keep hb3' (by omega))
         have KT3 := Lib.hid (KT.out.keep hb3' (by omega))
         have HA3 := Lib.hid ho3.arg
         have HZ3 := Lib.hid (HZ1.out.keep hb3' (by omega))
         have HO3 := Lib.hid (HO1.out.below hb3')
         clear KR KT HB1 HZ1 HO1 ho3 hb3' hbb
         go_wp2_with fail
         with_reducible refine (same_any _ w3.heap.size w.heap.size A3 (some ⟨b, off, none⟩) (n + 16) c3 (n + 16) c _ zs true HE.out HA3.out HZ3.out).mono ?_
         rintro e w4 ⟨rfl, t, rfl⟩
         have kr := KR3.out.drewN t
         have kt := KT3.out.drewN t
         have bz := kr.put3 (.int .i64 (p : Int)) (.slice A1 n c1) (.int .i64 (s : Int))
         have hbz := below_put3 (below_drewN HB3.out t) (b := w.heap.size) (Nat.le_refl _) (.int .i64 (p : Int)) (.slice A1 n c1) (.int .i64 (s : Int))
         have hoz := (((HO3.out.drewN t).other (b := w.heap.size) (i := 0) (v := .int .i64 (p : Int)) (by omega)).other (b := w.heap.size) (i := 1) (v := .slice A1 n c1) (by omega)).other (b := w.heap.size) (i := 2) (v := .int .i64 (s : Int)) (by omega)
         have y0 := bz.cell 0 _ rfl
         have y1 := bz.cell 1 _ rfl
         have y2 := bz.cell 2 _ rfl
         have f0 := kr.froz 0 (by simp)
         have f1 := kr.froz 1 (by simp)
         have f2 := kr.froz 2 (by simp)
         have x0 := kr.cell 0 _ rfl
         have x1 := kr.cell 1 _ rfl
         have x2 := kr.cell 2 _ rfl
         have t0 := kt.cell 0 _ rfl
         have t1 := kt.cell 1 _ rfl
         have t2 := kt.cell 2 _ rfl
         have zt := kt.lt
         have zr := kr.lt
         clear kr bz kt
         go_wp2
         exact bodyPost_ret (v := .tuple #[.agg #[.int .i64 (p : Int), .slice A1 n c1, .int .i64 (s : Int)], .int .i64 0]) (by simp [results, Try.results27, go_sem, y0, y1, y2]) rfl ⟨A1, c1, rfl, hoz.mono (by omega), hbz⟩)

end Go.Proofs.Ytndgladfcogiiaa
