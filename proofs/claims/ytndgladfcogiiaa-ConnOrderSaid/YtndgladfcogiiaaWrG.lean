/- Contract: DocReadReply. -/
import Derived.Test.YtndgladfcogiiaaWrF
import Derived.RegionTactic
import Derived.BigRegion
namespace Go.Proofs.Ytndgladfcogiiaa
open Go.RowKit
set_option maxRecDepth 100000
set_option linter.unusedVariables false

/-- The number at 2 + 8 k. -/
def wn (zs : List Nat) (k : Nat) : Nat := Tk.numV ((zs.drop (2 + 8 * k)).take 8)
theorem wn_lt {zs : List Nat} (h : ∀ d ∈ zs, d < 256) (k : Nat) : wn zs k < 18446744073709551616 := by
  have h1 := Tk.numV_lt (l := (zs.drop (2 + 8 * k)).take 8) fun d hd => h d (List.mem_of_mem_drop (List.mem_of_mem_take hd))
  have h2 : ((zs.drop (2 + 8 * k)).take 8).length ≤ 8 := by simp; omega
  have h3 : 256 ^ ((zs.drop (2 + 8 * k)).take 8).length ≤ 256 ^ 8 := Nat.pow_le_pow_right (by omega) h2
  unfold wn
  omega
theorem wrap_tk {x : Nat} (h : x < 18446744073709551616) (ht : tkB (IntKind.i64.wrap (x : Int)) = true) : x ≤ 4611686018427387903 := by
  have h1 := tkB_true ht
  rcases Nat.lt_or_ge x 9223372036854775808 with h2 | h2
  · rw [IntWalk.i64_in _ (by omega)] at h1; omega
  · exfalso
    have : IntKind.i64.wrap (x : Int) = (x : Int) - 18446744073709551616 := by simp [IntKind.wrap_i64]; omega
    omega
theorem n8_wn (zs : List Nat) (k : Nat) : n8 zs (2 + 8 * k) = IntKind.i64.wrap (wn zs k : Int) := rfl
theorem wn_word {zs : List Nat} (h : ∀ d ∈ zs, d < 256) (hl : zs.length = 34) (k : Nat) (hk : k < 4) : Tk.wordV (wn zs k) 8 = (zs.drop (2 + 8 * k)).take 8 := by
  have h1 := Tk.wordV_numV (l := (zs.drop (2 + 8 * k)).take 8) fun d hd => h d (List.mem_of_mem_drop (List.mem_of_mem_take hd))
  have h2 : ((zs.drop (2 + 8 * k)).take 8).length = 8 := by simp; omega
  rw [h2] at h1
  exact h1
def drR (zs : List Nat) : RpV := ⟨(zs.getD 0 0 : Nat), decide (zs.getD 1 0 = 1), (wn zs 0 : Nat), (wn zs 1 : Nat), (wn zs 2 : Nat), (wn zs 3 : Nat)⟩
theorem rdV_dr {zs : List Nat} (hn : ∀ k < 4, wn zs k ≤ 4611686018427387903) : rdV zs = drR zs := by
  have h0 := hn 0 (by omega)
  have h1 := hn 1 (by omega)
  have h2 := hn 2 (by omega)
  have h3 := hn 3 (by omega)
  unfold rdV drR
  rw [show n8 zs 2 = _ from n8_wn zs 0, show n8 zs 10 = _ from n8_wn zs 1, show n8 zs 18 = _ from n8_wn zs 2, show n8 zs 26 = _ from n8_wn zs 3]
  rw [IntWalk.i64_in _ (by omega), IntWalk.i64_in _ (by omega), IntWalk.i64_in _ (by omega), IntWalk.i64_in _ (by omega)]
theorem drR_bytes {zs : List Nat} (hb : ∀ d ∈ zs, d < 256) (hl : zs.length = 34) (h1 : zs.getD 1 0 ≤ 1) : (drR zs).bytes = zs := by
  unfold RpV.bytes drR
  simp only [Int.toNat_natCast]
  rw [wn_word hb hl 0 (by omega), wn_word hb hl 1 (by omega), wn_word hb hl 2 (by omega), wn_word hb hl 3 (by omega)]
  have e0 : [zs.getD 0 0, if decide (zs.getD 1 0 = 1) = true then 1 else 0] = zs.take 2 := by
    match zs, hl with
    | a :: b :: l, _ =>
      simp at h1 ⊢
      rcases (by omega : b = 0 ∨ b = 1) with rfl | rfl <;> rfl
  rw [e0]
  have t0 := List.take_append_drop 2 zs
  have t1 := List.take_append_drop 8 (zs.drop 2)
  have t2 := List.take_append_drop 8 (zs.drop 10)
  have t3 := List.take_append_drop 8 (zs.drop 18)
  have t4 : (zs.drop 26).take 8 = zs.drop 26 := List.take_of_length_le (by simp; omega)
  simp only [List.drop_drop] at t1 t2 t3
  simp only [Nat.reduceMul, Nat.reduceAdd, List.append_assoc] at t1 t2 t3 ⊢
  rw [t4, t3, t2, t1, t0]
theorem drR_ok {zs : List Nat} (h0 : zs.getD 0 0 ≤ 16) (hn : ∀ k < 4, wn zs k ≤ 4611686018427387903) : (drR zs).ok = true := by
  have a0 := hn 0 (by omega)
  have a1 := hn 1 (by omega)
  have a2 := hn 2 (by omega)
  have a3 := hn 3 (by omega)
  have e : (drR zs).eB = true := by unfold RpV.eB drR; simp only [Bool.and_eq_true, decide_eq_true_eq]; omega
  unfold RpV.ok
  rw [e]
  simp [drR, tkB]
  omega
theorem rrV_yes {zs : List Nat} (hb : ∀ d ∈ zs, d < 256) (hl : zs.length = 34) (h0 : zs.getD 0 0 ≤ 16) (h1 : zs.getD 1 0 ≤ 1) (hn : ∀ k < 4, wn zs k ≤ 4611686018427387903) : rrV zs = (drR zs, 0) := by
  unfold rrV
  rw [if_neg (by omega), rdV_dr hn, if_pos ⟨by omega, drR_ok h0 hn, drR_bytes hb hl h1⟩]
theorem rrV_no {zs : List Nat} (hb : ∀ d ∈ zs, d < 256) (hl : zs.length ≤ 4096) (h : ¬ (zs.length = 34 ∧ zs.getD 0 0 ≤ 16 ∧ zs.getD 1 0 ≤ 1 ∧ ∀ k < 4, wn zs k ≤ 4611686018427387903)) : rrV zs = (RpV.zero, 3) := by
  unfold rrV
  rw [if_neg (by omega), if_neg]
  rintro ⟨h1, h2, h3⟩
  apply h
  have hl2 : zs.length = 34 := by rw [← h3]; exact RpV.len _
  unfold RpV.ok RpV.eB at h2
  simp only [Bool.and_eq_true, decide_eq_true_eq] at h2
  obtain ⟨⟨⟨⟨⟨_, k0⟩, k1⟩, k2⟩, k3⟩, k4⟩ := h2
  refine ⟨hl2, ?_, ?_, ?_⟩
  · unfold rdV at k0; simp only [] at k0; omega
  · rw [← h3]; unfold RpV.bytes; simp; split <;> omega
  · intro k hk
    have hw := wn_lt hb k
    rcases (by omega : k = 0 ∨ k = 1 ∨ k = 2 ∨ k = 3) with rfl | rfl | rfl | rfl
    · exact wrap_tk hw k1
    · exact wrap_tk hw k2
    · exact wrap_tk hw k3
    · exact wrap_tk hw k4

theorem dr_ret {w wd : World} {zs : List Nat} (rv : RpV) (f : Int) (hv : rrV zs = (rv, f)) (tmps : Array Value) (hr : BlkL wd w.heap.size rv.cells) (hb : Below w.heap.size w wd)
    (t2 : tmps[2]? = some (.pointer (some ⟨w.heap.size, 0, none⟩))) (t3 : tmps[3]? = some (.int .i64 f)) :
    bodyPost Try.prog Try.f53 (RrX w zs) Exit.ret { tmps := tmps, defers := [] } wd := by
  have c0 := hr.cell 0 _ rfl
  have c1 := hr.cell 1 _ rfl
  have c2 := hr.cell 2 _ rfl
  have c3 := hr.cell 3 _ rfl
  have c4 := hr.cell 4 _ rfl
  have c5 := hr.cell 5 _ rfl
  refine bodyPost_ret (v := .tuple #[rv.val, .int .i64 f]) ?_ rfl ⟨by rw [hv], hb⟩
  simp [results, Try.results53, go_sem, t2, t3, c0, c1, c2, c3, c4, c5]
set_option maxHeartbeats 1600000 in
theorem dr_long (w : World) (A : Option Addr) (n c : Nat) (zs : List Nat) (h : Arg w w.heap.size A n c zs) (hn : 4096 < n) : Calls Try.prog 53 #[.slice A n c] w (RrX w zs) := by
  have hv : rrV zs = (RpV.zero, 2) := by unfold rrV; rw [h.len, if_pos hn]
  have HV := Lib.hid hv
  have hd : decide (4096 < (n : Int)) = true := by simp; omega
  clear hv h
  go_enter Try.func53, Try.ntmps53
  go_wp2
  exact dr_ret RpV.zero 2 HV.out _ (BlkL.new w RpV.zero.cells 82) ((Below.refl _ _).alloc (Nat.le_refl _) _) rfl rfl
set_option maxHeartbeats 1600000 in
theorem dr_len (w : World) (A : Option Addr) (n c : Nat) (zs : List Nat) (h : Arg w w.heap.size A n c zs) (hn : n ≤ 4096) (hn2 : n ≠ 34) : Calls Try.prog 53 #[.slice A n c] w (RrX w zs) := by
  have hv : rrV zs = (RpV.zero, 3) := rrV_no h.byte (by rw [h.len]; omega) (by rw [h.len]; omega)
  have HV := Lib.hid hv
  have hd : decide (4096 < (n : Int)) = false := by simp; omega
  have hd2 : ((n : Int) != 34) = true := by simp; omega
  clear hv h
  go_enter Try.func53, Try.ntmps53
  go_wp2
  exact dr_ret RpV.zero 3 HV.out _ (BlkL.new w RpV.zero.cells 82) ((Below.refl _ _).alloc (Nat.le_refl _) _) rfl rfl
set_option maxHeartbeats 1600000 in
theorem dr_z0 (w : World) (A : Option Addr) (c : Nat) (zs : List Nat) (h : Arg w w.heap.size A 34 c zs) (h0 : 16 < zs.getD 0 0) : Calls Try.prog 53 #[.slice A 34 c] w (RrX w zs) := by
  have hv : rrV zs = (RpV.zero, 3) := rrV_no h.byte (by rw [h.len]; omega) (by omega)
  have HV := Lib.hid hv
  obtain ⟨b, off, rfl, hbB, hc⟩ := h.at_ (by omega)
  obtain ⟨z0, hz0⟩ : ∃ z, zs.getD 0 0 = z := ⟨_, rfl⟩
  have hc0 : w.cell? ⟨b, off, none⟩ = some (.int .u8 (z0 : Int)) := by rw [← hz0]; exact hc 0 (by omega)
  have hd3 : decide ((16 : Int) < (z0 : Int)) = true := by simp; omega
  clear hv h hz0 hc
  go_enter Try.func53, Try.ntmps53
  go_wp2
  exact dr_ret RpV.zero 3 HV.out _ (BlkL.new w RpV.zero.cells 82) ((Below.refl _ _).alloc (Nat.le_refl _) _) rfl rfl
set_option maxHeartbeats 1600000 in
theorem dr_z1 (w : World) (A : Option Addr) (c : Nat) (zs : List Nat) (h : Arg w w.heap.size A 34 c zs) (h0 : zs.getD 0 0 ≤ 16) (h1 : 1 < zs.getD 1 0) : Calls Try.prog 53 #[.slice A 34 c] w (RrX w zs) := by
  have hv : rrV zs = (RpV.zero, 3) := rrV_no h.byte (by rw [h.len]; omega) (by omega)
  have HV := Lib.hid hv
  obtain ⟨b, off, rfl, hbB, hc⟩ := h.at_ (by omega)
  obtain ⟨z0, hz0⟩ : ∃ z, zs.getD 0 0 = z := ⟨_, rfl⟩
  obtain ⟨z1, hz1⟩ : ∃ z, zs.getD 1 0 = z := ⟨_, rfl⟩
  have hc0 : w.cell? ⟨b, off, none⟩ = some (.int .u8 (z0 : Int)) := by rw [← hz0]; exact hc 0 (by omega)
  have hc1 : w.cell? ⟨b, off + 1, none⟩ = some (.int .u8 (z1 : Int)) := by rw [← hz1]; exact hc 1 (by omega)
  have hd3 : decide ((16 : Int) < (z0 : Int)) = false := by simp; omega
  have hd4 : decide ((1 : Int) < (z1 : Int)) = true := by simp; omega
  clear hv h hz0 hc hz1
  go_enter Try.func53, Try.ntmps53
  go_wp2
  exact dr_ret RpV.zero 3 HV.out _ (BlkL.new w RpV.zero.cells 82) ((Below.refl _ _).alloc (Nat.le_refl _) _) rfl rfl

/-- The reply as it has grown behind the first j numbers. -/
def RpV.part (r : RpV) (j : Nat) : RpV := ⟨r.E, r.G, if 0 < j then r.a else 0, if 1 < j then r.b else 0, if 2 < j then r.c else 0, if 3 < j then r.d else 0⟩
/-- At the head of each round. -/
def DrI (w1 : World) (tb : Nat) (zs : List Nat) (j : Nat) (wr : World) : Prop := BlkL wr tb ((drR zs).part j).cells ∧ Off [tb] w1 wr ∧ ∀ k < j, wn zs k ≤ 4611686018427387903
set_option maxHeartbeats 3200000 in
theorem dr_main (w : World) (A : Option Addr) (c : Nat) (zs : List Nat) (h : Arg w w.heap.size A 34 c zs) (h0 : zs.getD 0 0 ≤ 16) (h1 : zs.getD 1 0 ≤ 1) : Calls Try.prog 53 #[.slice A 34 c] w (RrX w zs) := by
  have HA := Lib.hid h
  have hle := h.le
  obtain ⟨b, off, rfl, hbB, hc⟩ := h.at_ (by omega)
  obtain ⟨z0, hz0⟩ : ∃ z, zs.getD 0 0 = z := ⟨_, rfl⟩
  obtain ⟨z1, hz1⟩ : ∃ z, zs.getD 1 0 = z := ⟨_, rfl⟩
  have hc0 : w.cell? ⟨b, off, none⟩ = some (.int .u8 (z0 : Int)) := by rw [← hz0]; exact hc 0 (by omega)
  have hc1 : w.cell? ⟨b, off + 1, none⟩ = some (.int .u8 (z1 : Int)) := by rw [← hz1]; exact hc 1 (by omega)
  have hd3 : decide ((16 : Int) < (z0 : Int)) = false := by simp; omega
  have hd4 : decide ((1 : Int) < (z1 : Int)) = false := by simp; omega
  have ew : IntKind.i64.wrap (z0 : Int) = (z0 : Int) := IntWalk.i64_in _ (by omega)
  obtain ⟨bb, eb⟩ : ∃ y : Bool, ((z1 : Int) == 1) = y := ⟨_, rfl⟩
  obtain ⟨N0, hN0⟩ : ∃ y, wn zs 0 = y := ⟨_, rfl⟩
  have HN0 := Lib.hid hN0
  obtain ⟨N1, hN1⟩ : ∃ y, wn zs 1 = y := ⟨_, rfl⟩
  have HN1 := Lib.hid hN1
  obtain ⟨N2, hN2⟩ : ∃ y, wn zs 2 = y := ⟨_, rfl⟩
  have HN2 := Lib.hid hN2
  obtain ⟨N3, hN3⟩ : ∃ y, wn zs 3 = y := ⟨_, rfl⟩
  have HN3 := Lib.hid hN3
  have HDR : Hid (drR zs = ⟨(z0 : Int), bb, (N0 : Int), (N1 : Int), (N2 : Int), (N3 : Int)⟩) := by
    refine Lib.hid ?_
    unfold drR
    rw [hz0, hz1, hN0, hN1, hN2, hN3, ← eb]
    congr 1
    rw [Bool.eq_iff_iff]; simp; omega
  have H0 := Lib.hid h0
  have H1 := Lib.hid h1
  have HZ0 := Lib.hid hz0
  have HZ1 := Lib.hid hz1
  clear h hz0 hc hz1 h0 h1 hN0 hN1 hN2 hN3
  have b1 : Below w.heap.size w ((w.alloc (.cells #[.int .i64 0, .bool false, .int .i64 0, .int .i64 0, .int .i64 0, .int .i64 0] 82)).alloc (.cells #[.int .i64 (z0 : Int), .bool bb, .int .i64 0, .int .i64 0, .int .i64 0, .int .i64 0] 82)).drew := (((Below.refl w.heap.size w).alloc (Nat.le_refl _) _).alloc (by simp) _).drew
  have r1 : BlkL ((w.alloc (.cells #[.int .i64 0, .bool false, .int .i64 0, .int .i64 0, .int .i64 0, .int .i64 0] 82)).alloc (.cells #[.int .i64 (z0 : Int), .bool bb, .int .i64 0, .int .i64 0, .int .i64 0, .int .i64 0] 82)).drew w.heap.size RpV.zero.cells := ((BlkL.new w RpV.zero.cells 82).alloc _).drew
  have t1 : BlkL ((w.alloc (.cells #[.int .i64 0, .bool false, .int .i64 0, .int .i64 0, .int .i64 0, .int .i64 0] 82)).alloc (.cells #[.int .i64 (z0 : Int), .bool bb, .int .i64 0, .int .i64 0, .int .i64 0, .int .i64 0] 82)).drew (w.heap.size + 1) [.int .i64 (z0 : Int), .bool bb, .int .i64 0, .int .i64 0, .int .i64 0, .int .i64 0] := by
    have := (BlkL.new (w.alloc (.cells #[.int .i64 0, .bool false, .int .i64 0, .int .i64 0, .int .i64 0, .int .i64 0] 82)) [.int .i64 (z0 : Int), .bool bb, .int .i64 0, .int .i64 0, .int .i64 0, .int .i64 0] 82).drew
    rwa [World.size_alloc] at this
  have B1 := Lib.hid b1
  have R1 := Lib.hid r1
  have T1 := Lib.hid t1
  clear b1 r1 t1
  go_enter Try.func53, Try.ntmps53
  go_wp2
  go_region
  generalize ((w.alloc (.cells #[.int .i64 0, .bool false, .int .i64 0, .int .i64 0, .int .i64 0, .int .i64 0] 82)).alloc (.cells #[.int .i64 (z0 : Int), .bool bb, .int .i64 0, .int .i64 0, .int .i64 0, .int .i64 0] 82)).drew = w1 at *
  clear hc0 hc1
  go_wp2_with fail
  go_loopw [36] (fun iv wr => ∃ j : Nat, j ≤ 4 ∧ iv = .int .i64 (j : Int) ∧ DrI w1 (w.heap.size + 1) zs j wr) (fun iv _ => 4 - (intOf iv).toNat)
  case atStart => exact ⟨0, by omega, rfl, by have := T1.out; unfold DrI; rw [HDR.out]; exact ⟨this, Off.refl _ _, fun k hk => by omega⟩⟩
  case round =>
    obtain ⟨j, hj, rfl, i1, i2, i3⟩ := hrel
    have hs2 := i2.size
    have l1 := T1.out.lt
    have hB : Below w.heap.size w wr := B1.out.trans (i2.below B1.out.size (by simp))
    have rr := R1.out.off i2 (by simp)
    have HAr : Hid (Arg wr w.heap.size (some ⟨b, off, none⟩) 34 c zs) := Lib.hid (HA.out.below hB)
    have I1 := Lib.hid i1
    have I2 := Lib.hid i2
    have I3 := Lib.hid i3
    have RR := Lib.hid rr
    have HB := Lib.hid hB
    have lt := i1.lt
    have lr := rr.lt
    have s0 := rr.cell 0 _ rfl
    have g0 := rr.froz 0 (by simp)
    have s1 := rr.cell 1 _ rfl
    have g1 := rr.froz 1 (by simp)
    have s2 := rr.cell 2 _ rfl
    have g2 := rr.froz 2 (by simp)
    have s3 := rr.cell 3 _ rfl
    have g3 := rr.froz 3 (by simp)
    have s4 := rr.cell 4 _ rfl
    have g4 := rr.froz 4 (by simp)
    have s5 := rr.cell 5 _ rfl
    have g5 := rr.froz 5 (by simp)
    clear i1 i2 i3 hB rr hs2 l1
    rcases (by omega : j = 0 ∨ j = 1 ∨ j = 2 ∨ j = 3 ∨ j = 4) with rfl | rfl | rfl | rfl | rfl
    · have i1 : BlkL wr (w.heap.size + 1) [.int .i64 (z0 : Int), .bool bb, .int .i64 0, .int .i64 0, .int .i64 0, .int .i64 0] := by have := I1.out; rw [HDR.out] at this; exact this
      have f := i1.froz 2 (by simp)
      have q := i1.cell 2 _ rfl
      have hn := (HAr.out.from_ (k := 2) (by omega)).take (k := 8) (by omega)
      rw [if_neg (by omega)] at hn
      simp only [Option.map_some, Addr.add] at hn
      rw [if_neg (by omega : ¬ 2 = 0)] at hn
      have HC : Hid (Calls Try.prog 76 #[.slice (some ⟨b, off + 2, none⟩) 8 (c - 2)] wr fun e w' => e = .returned (.int .u64 (N0 : Nat)) ∧ wr = w') := by
        have := number7_any wr _ _ 8 _ _ (by omega) hn
        rw [show Tk.numV ((zs.drop 2).take 8) = N0 from HN0.out] at this
        exact Lib.hid this
      have E1 := Lib.hid i1
      clear hn i1
      by_cases hb : N0 ≤ 4611686018427387903
      · have db : decide ((4611686018427387903 : Int) < (N0 : Int)) = false := by simp; omega
        have wb : IntKind.i64.wrap (N0 : Int) = (N0 : Int) := IntWalk.i64_in _ (by omega)
        have HIJ : Hid (DrI w1 (w.heap.size + 1) zs (0 + 1) (wr.setCell ⟨w.heap.size + 1, 2, none⟩ (.int .i64 (N0 : Int)))) := by
          refine Lib.hid ⟨?_, I2.out.setCell (p := ⟨w.heap.size + 1, 2, none⟩) (by simp) _, fun k hk => ?_⟩
          · rw [HDR.out]; exact E1.out.set 2 (.int .i64 (N0 : Int)) (by simp)
          · rcases (by omega : k < 0 ∨ k = 0) with h | h
            · exact I3.out k h
            · subst h; rw [HN0.out]; exact hb
        go_wp2_with fail
        with_reducible refine (HC.out).mono ?_
        rintro e w' ⟨rfl, rfl⟩
        go_wp2
        go_roundw
        case rel => exact ⟨0 + 1, by omega, rfl, HIJ.out⟩
        case measure => simp [intOf]
      · have db : decide ((4611686018427387903 : Int) < (N0 : Int)) = true := by simp; omega
        have hv : rrV zs = (RpV.zero, 3) := rrV_no HA.out.byte (by rw [HA.out.len]; omega) (fun h => by have := h.2.2.2 0 (by omega); rw [HN0.out] at this; omega)
        have HV := Lib.hid hv
        clear hv
        go_wp2_with fail
        with_reducible refine (HC.out).mono ?_
        rintro e w' ⟨rfl, rfl⟩
        go_wp2
        exact dr_ret RpV.zero 3 HV.out _ ((((((RR.out.set 0 (.int .i64 0) (by simp)).set 1 (.bool false) (by simp)).set 2 (.int .i64 0) (by simp)).set 3 (.int .i64 0) (by simp)).set 4 (.int .i64 0) (by simp)).set 5 (.int .i64 0) (by simp)) ((((((HB.out.setCell (Nat.le_refl _) _).setCell (Nat.le_refl _) _).setCell (Nat.le_refl _) _).setCell (Nat.le_refl _) _).setCell (Nat.le_refl _) _).setCell (Nat.le_refl _) _) rfl rfl
    · have i1 : BlkL wr (w.heap.size + 1) [.int .i64 (z0 : Int), .bool bb, .int .i64 (N0 : Int), .int .i64 0, .int .i64 0, .int .i64 0] := by have := I1.out; rw [HDR.out] at this; exact this
      have f := i1.froz 3 (by simp)
      have q := i1.cell 3 _ rfl
      have hn := (HAr.out.from_ (k := 10) (by omega)).take (k := 8) (by omega)
      rw [if_neg (by omega)] at hn
      simp only [Option.map_some, Addr.add] at hn
      rw [if_neg (by omega : ¬ 10 = 0)] at hn
      have HC : Hid (Calls Try.prog 76 #[.slice (some ⟨b, off + 10, none⟩) 8 (c - 10)] wr fun e w' => e = .returned (.int .u64 (N1 : Nat)) ∧ wr = w') := by
        have := number7_any wr _ _ 8 _ _ (by omega) hn
        rw [show Tk.numV ((zs.drop 10).take 8) = N1 from HN1.out] at this
        exact Lib.hid this
      have E1 := Lib.hid i1
      clear hn i1
      by_cases hb : N1 ≤ 4611686018427387903
      · have db : decide ((4611686018427387903 : Int) < (N1 : Int)) = false := by simp; omega
        have wb : IntKind.i64.wrap (N1 : Int) = (N1 : Int) := IntWalk.i64_in _ (by omega)
        have HIJ : Hid (DrI w1 (w.heap.size + 1) zs (1 + 1) (wr.setCell ⟨w.heap.size + 1, 3, none⟩ (.int .i64 (N1 : Int)))) := by
          refine Lib.hid ⟨?_, I2.out.setCell (p := ⟨w.heap.size + 1, 3, none⟩) (by simp) _, fun k hk => ?_⟩
          · rw [HDR.out]; exact E1.out.set 3 (.int .i64 (N1 : Int)) (by simp)
          · rcases (by omega : k < 1 ∨ k = 1) with h | h
            · exact I3.out k h
            · subst h; rw [HN1.out]; exact hb
        go_wp2_with fail
        with_reducible refine (HC.out).mono ?_
        rintro e w' ⟨rfl, rfl⟩
        go_wp2
        go_roundw
        case rel => exact ⟨1 + 1, by omega, rfl, HIJ.out⟩
        case measure => simp [intOf]
      · have db : decide ((4611686018427387903 : Int) < (N1 : Int)) = true := by simp; omega
        have hv : rrV zs = (RpV.zero, 3) := rrV_no HA.out.byte (by rw [HA.out.len]; omega) (fun h => by have := h.2.2.2 1 (by omega); rw [HN1.out] at this; omega)
        have HV := Lib.hid hv
        clear hv
        go_wp2_with fail
        with_reducible refine (HC.out).mono ?_
        rintro e w' ⟨rfl, rfl⟩
        go_wp2
        exact dr_ret RpV.zero 3 HV.out _ ((((((RR.out.set 0 (.int .i64 0) (by simp)).set 1 (.bool false) (by simp)).set 2 (.int .i64 0) (by simp)).set 3 (.int .i64 0) (by simp)).set 4 (.int .i64 0) (by simp)).set 5 (.int .i64 0) (by simp)) ((((((HB.out.setCell (Nat.le_refl _) _).setCell (Nat.le_refl _) _).setCell (Nat.le_refl _) _).setCell (Nat.le_refl _) _).setCell (Nat.le_refl _) _).setCell (Nat.le_refl _) _) rfl rfl
    · have i1 : BlkL wr (w.heap.size + 1) [.int .i64 (z0 : Int), .bool bb, .int .i64 (N0 : Int), .int .i64 (N1 : Int), .int .i64 0, .int .i64 0] := by have := I1.out; rw [HDR.out] at this; exact this
      have f := i1.froz 4 (by simp)
      have q := i1.cell 4 _ rfl
      have hn := (HAr.out.from_ (k := 18) (by omega)).take (k := 8) (by omega)
      rw [if_neg (by omega)] at hn
      simp only [Option.map_some, Addr.add] at hn
      rw [if_neg (by omega : ¬ 18 = 0)] at hn
      have HC : Hid (Calls Try.prog 76 #[.slice (some ⟨b, off + 18, none⟩) 8 (c - 18)] wr fun e w' => e = .returned (.int .u64 (N2 : Nat)) ∧ wr = w') := by
        have := number7_any wr _ _ 8 _ _ (by omega) hn
        rw [show Tk.numV ((zs.drop 18).take 8) = N2 from HN2.out] at this
        exact Lib.hid this
      have E1 := Lib.hid i1
      clear hn i1
      by_cases hb : N2 ≤ 4611686018427387903
      · have db : decide ((4611686018427387903 : Int) < (N2 : Int)) = false := by simp; omega
        have wb : IntKind.i64.wrap (N2 : Int) = (N2 : Int) := IntWalk.i64_in _ (by omega)
        have HIJ : Hid (DrI w1 (w.heap.size + 1) zs (2 + 1) (wr.setCell ⟨w.heap.size + 1, 4, none⟩ (.int .i64 (N2 : Int)))) := by
          refine Lib.hid ⟨?_, I2.out.setCell (p := ⟨w.heap.size + 1, 4, none⟩) (by simp) _, fun k hk => ?_⟩
          · rw [HDR.out]; exact E1.out.set 4 (.int .i64 (N2 : Int)) (by simp)
          · rcases (by omega : k < 2 ∨ k = 2) with h | h
            · exact I3.out k h
            · subst h; rw [HN2.out]; exact hb
        go_wp2_with fail
        with_reducible refine (HC.out).mono ?_
        rintro e w' ⟨rfl, rfl⟩
        go_wp2
        go_roundw
        case rel => exact ⟨2 + 1, by omega, rfl, HIJ.out⟩
        case measure => simp [intOf]
      · have db : decide ((4611686018427387903 : Int) < (N2 : Int)) = true := by simp; omega
        have hv : rrV zs = (RpV.zero, 3) := rrV_no HA.out.byte (by rw [HA.out.len]; omega) (fun h => by have := h.2.2.2 2 (by omega); rw [HN2.out] at this; omega)
        have HV := Lib.hid hv
        clear hv
        go_wp2_with fail
        with_reducible refine (HC.out).mono ?_
        rintro e w' ⟨rfl, rfl⟩
        go_wp2
        exact dr_ret RpV.zero 3 HV.out _ ((((((RR.out.set 0 (.int .i64 0) (by simp)).set 1 (.bool false) (by simp)).set 2 (.int .i64 0) (by simp)).set 3 (.int .i64 0) (by simp)).set 4 (.int .i64 0) (by simp)).set 5 (.int .i64 0) (by simp)) ((((((HB.out.setCell (Nat.le_refl _) _).setCell (Nat.le_refl _) _).setCell (Nat.le_refl _) _).setCell (Nat.le_refl _) _).setCell (Nat.le_refl _) _).setCell (Nat.le_refl _) _) rfl rfl
    · have i1 : BlkL wr (w.heap.size + 1) [.int .i64 (z0 : Int), .bool bb, .int .i64 (N0 : Int), .int .i64 (N1 : Int), .int .i64 (N2 : Int), .int .i64 0] := by have := I1.out; rw [HDR.out] at this; exact this
      have f := i1.froz 5 (by simp)
      have q := i1.cell 5 _ rfl
      have hn := (HAr.out.from_ (k := 26) (by omega)).take (k := 8) (by omega)
      rw [if_neg (by omega)] at hn
      simp only [Option.map_some, Addr.add] at hn
      rw [if_neg (by omega : ¬ 26 = 0)] at hn
      have HC : Hid (Calls Try.prog 76 #[.slice (some ⟨b, off + 26, none⟩) 8 (c - 26)] wr fun e w' => e = .returned (.int .u64 (N3 : Nat)) ∧ wr = w') := by
        have := number7_any wr _ _ 8 _ _ (by omega) hn
        rw [show Tk.numV ((zs.drop 26).take 8) = N3 from HN3.out] at this
        exact Lib.hid this
      have E1 := Lib.hid i1
      clear hn i1
      by_cases hb : N3 ≤ 4611686018427387903
      · have db : decide ((4611686018427387903 : Int) < (N3 : Int)) = false := by simp; omega
        have wb : IntKind.i64.wrap (N3 : Int) = (N3 : Int) := IntWalk.i64_in _ (by omega)
        have HIJ : Hid (DrI w1 (w.heap.size + 1) zs (3 + 1) (wr.setCell ⟨w.heap.size + 1, 5, none⟩ (.int .i64 (N3 : Int)))) := by
          refine Lib.hid ⟨?_, I2.out.setCell (p := ⟨w.heap.size + 1, 5, none⟩) (by simp) _, fun k hk => ?_⟩
          · rw [HDR.out]; exact E1.out.set 5 (.int .i64 (N3 : Int)) (by simp)
          · rcases (by omega : k < 3 ∨ k = 3) with h | h
            · exact I3.out k h
            · subst h; rw [HN3.out]; exact hb
        go_wp2_with fail
        with_reducible refine (HC.out).mono ?_
        rintro e w' ⟨rfl, rfl⟩
        go_wp2
        go_roundw
        case rel => exact ⟨3 + 1, by omega, rfl, HIJ.out⟩
        case measure => simp [intOf]
      · have db : decide ((4611686018427387903 : Int) < (N3 : Int)) = true := by simp; omega
        have hv : rrV zs = (RpV.zero, 3) := rrV_no HA.out.byte (by rw [HA.out.len]; omega) (fun h => by have := h.2.2.2 3 (by omega); rw [HN3.out] at this; omega)
        have HV := Lib.hid hv
        clear hv
        go_wp2_with fail
        with_reducible refine (HC.out).mono ?_
        rintro e w' ⟨rfl, rfl⟩
        go_wp2
        exact dr_ret RpV.zero 3 HV.out _ ((((((RR.out.set 0 (.int .i64 0) (by simp)).set 1 (.bool false) (by simp)).set 2 (.int .i64 0) (by simp)).set 3 (.int .i64 0) (by simp)).set 4 (.int .i64 0) (by simp)).set 5 (.int .i64 0) (by simp)) ((((((HB.out.setCell (Nat.le_refl _) _).setCell (Nat.le_refl _) _).setCell (Nat.le_refl _) _).setCell (Nat.le_refl _) _).setCell (Nat.le_refl _) _).setCell (Nat.le_refl _) _) rfl rfl
    · have i1 : BlkL wr (w.heap.size + 1) [.int .i64 (z0 : Int), .bool bb, .int .i64 (N0 : Int), .int .i64 (N1 : Int), .int .i64 (N2 : Int), .int .i64 (N3 : Int)] := by have := I1.out; rw [HDR.out] at this; exact this
      have q0 := i1.cell 0 _ rfl
      have q1 := i1.cell 1 _ rfl
      have q2 := i1.cell 2 _ rfl
      have q3 := i1.cell 3 _ rfl
      have q4 := i1.cell 4 _ rfl
      have q5 := i1.cell 5 _ rfl
      have hv : rrV zs = (⟨(z0 : Int), bb, (N0 : Int), (N1 : Int), (N2 : Int), (N3 : Int)⟩, 0) := by rw [← HDR.out]; exact rrV_yes HA.out.byte HA.out.len H0.out H1.out I3.out
      have HV := Lib.hid hv
      clear hv i1
      go_wp2
      exact dr_ret ⟨(z0 : Int), bb, (N0 : Int), (N1 : Int), (N2 : Int), (N3 : Int)⟩ 0 HV.out _ ((((((RR.out.set 0 (.int .i64 (z0 : Int)) (by simp)).set 1 (.bool bb) (by simp)).set 2 (.int .i64 (N0 : Int)) (by simp)).set 3 (.int .i64 (N1 : Int)) (by simp)).set 4 (.int .i64 (N2 : Int)) (by simp)).set 5 (.int .i64 (N3 : Int)) (by simp)) ((((((HB.out.setCell (Nat.le_refl _) _).setCell (Nat.le_refl _) _).setCell (Nat.le_refl _) _).setCell (Nat.le_refl _) _).setCell (Nat.le_refl _) _).setCell (Nat.le_refl _) _) rfl rfl
theorem docReadReply_any (w : World) (A : Option Addr) (n c : Nat) (zs : List Nat) (h : Arg w w.heap.size A n c zs) : Calls Try.prog 53 #[.slice A n c] w (RrX w zs) := by
  by_cases h1 : 4096 < n
  · exact dr_long w A n c zs h h1
  by_cases h2 : n = 34
  · subst h2
    by_cases h3 : 16 < zs.getD 0 0
    · exact dr_z0 w A c zs h h3
    by_cases h4 : 1 < zs.getD 1 0
    · exact dr_z1 w A c zs h (by omega) h4
    exact dr_main w A c zs h (by omega) (by omega)
  · exact dr_len w A n c zs h (by omega) h2
end Go.Proofs.Ytndgladfcogiiaa
