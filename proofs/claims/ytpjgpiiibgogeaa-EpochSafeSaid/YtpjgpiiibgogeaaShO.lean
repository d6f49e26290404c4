/- Contract: of of a call. -/
import Derived.Test.YtpjgpiiibgogeaaShS
namespace Go.Proofs.Ytpjgpiiibgogeaa
open Go.RowKit
set_option maxRecDepth 100000
set_option linter.unusedVariables false

theorem OfEnd.up {w w1 : World} {cs : List Value} {r : AnsV} {m : Nat} {e : Ending} {w' : World} (hb : Below w.heap.size w w1) (h : OfEnd w1 cs r m e w') : OfEnd w cs r m e w' := by
  obtain ⟨A, c, he, ho, hw⟩ := h
  exact ⟨A, c, he, ho.mono hb.size, hb.trans (hw.mono hb.size)⟩

set_option maxHeartbeats 3200000 in
theorem of_set2 (w : World) (kA : Option Addr) (kn kc op : Nat) (v : Int) (A : Option Addr) (n c p : Nat) (hb : Bool) (cs : List Value) (r : AnsV) (m : Nat) (HS : Hid (∀ w', Below w.heap.size w w' → Calls Try.prog 110 #[.agg #[.int .u8 (op : Int), .slice kA kn kc, .int .i64 v], .slice A n c, .int .i64 (p : Int), .bool hb] w' (OfEnd w' cs r m))) (q2 : ((op : Int) == 2) = true) (HF : Hid (∀ w', Below w.heap.size w w' → Calls Try.prog 109 #[.slice A n c, .slice kA kn kc] w' fun e w1 => e = .returned (.tuple #[.int .i64 (p : Int), .bool hb]) ∧ Below w'.heap.size w' w1)) :
    Calls Try.prog 88 #[.agg #[.int .u8 (op : Int), .slice kA kn kc, .int .i64 v], .slice A n c] w (OfEnd w cs r m) := by
  have hb0 : Below w.heap.size w ((w.alloc (.cells #[.int .u8 (op : Int), .slice kA kn kc, .int .i64 v] 149)).alloc (.cells #[.bool false, .int .i64 0, .int .i64 0] 79)) := ((Below.refl w.heap.size w).alloc (by simp) _).alloc (by simp) _
  have HF1 := Lib.hid (HF.out _ hb0)
  have HB0 := Lib.hid hb0
  clear HF hb0
  have kc0 := (BlkL.new w [.int .u8 (op : Int), .slice kA kn kc, .int .i64 v] 149).alloc (.cells #[.bool false, .int .i64 0, .int .i64 0] 79)
  have kr0 := BlkL.new (w.alloc (.cells #[.int .u8 (op : Int), .slice kA kn kc, .int .i64 v] 149)) [.bool false, .int .i64 0, .int .i64 0] 79
  rw [World.size_alloc] at kr0
  have KC0 := Lib.hid kc0
  have KR0 := Lib.hid kr0
  clear kc0 kr0
  go_enter Try.func88, Try.ntmps88
  go_wp2_with fail
  with_reducible refine (HF1.out).mono ?_
  rintro e w1 ⟨rfl, hb1⟩
  have kc1 := KC0.out.below hb1
  have kr1 := KR0.out.below hb1
  have HB1 := Lib.hid (HB0.out.trans (hb1.mono HB0.out.size))
  clear hb1 KC0 KR0 HF1
  have c0 := kc1.cell 0 _ rfl
  have c1 := kc1.cell 1 _ rfl
  have c2 := kc1.cell 2 _ rfl
  have cl := kc1.lt
  have r0 := kr1.cell 0 _ rfl
  have r1 := kr1.cell 1 _ rfl
  have r2 := kr1.cell 2 _ rfl
  have g0 := kr1.froz 0 (by simp)
  have g1 := kr1.froz 1 (by simp)
  have g2 := kr1.froz 2 (by simp)
  have rl := kr1.lt
  have KC1 := Lib.hid kc1
  have KR1 := Lib.hid kr1
  clear kc1 kr1
  have HS1 := Lib.hid (HS.out _ HB1.out)
  clear HS
  go_wp2_with fail
  with_reducible refine (HS1.out).mono ?_
  rintro e w2 ⟨A', c', rfl, ho, hb2⟩
  have kr2 := KR1.out.below hb2
  have HBB := Lib.hid (HB1.out.trans (hb2.mono HB1.out.size))
  have HK := Lib.hid ho
  clear r0 r1 r2 g0 g1 g2 ho hb2 HS1
  have r0 := kr2.cell 0 _ rfl
  have r1 := kr2.cell 1 _ rfl
  have r2 := kr2.cell 2 _ rfl
  have g0 := kr2.froz 0 (by simp)
  have g1 := kr2.froz 1 (by simp)
  have g2 := kr2.froz 2 (by simp)
  have rl2 := kr2.lt
  have KR2 := Lib.hid kr2
  clear kr2
  have HSZ := Lib.hid (And.intro cl rl)
  go_wp2
  have bz := KR2.out.put3 (.bool true) (.int .i64 r.E) (.int .i64 r.N)
  have z0 := bz.cell 0 _ rfl
  have z1 := bz.cell 1 _ rfl
  have z2 := bz.cell 2 _ rfl
  have hoz := (((HK.out.other (b := w.heap.size + 1) (i := 0) (v := .bool true) HSZ.out.2).other (b := w.heap.size + 1) (i := 1) (v := .int .i64 r.E) HSZ.out.2).other (b := w.heap.size + 1) (i := 2) (v := .int .i64 r.N) HSZ.out.2).mono (B' := w.heap.size) HB1.out.size
  have hbz := below_put3 HBB.out (b := w.heap.size + 1) (by omega) (.bool true) (.int .i64 r.E) (.int .i64 r.N)
  clear bz r0 r1 r2 g0 g1 g2
  exact bodyPost_ret (v := .tuple #[.agg #[.bool true, .int .i64 r.E, .int .i64 r.N], .slice A' m c']) (by simp [results, Try.results88, go_sem, z0, z1, z2]) rfl ⟨A', c', rfl, hoz, hbz⟩

set_option maxHeartbeats 3200000 in
theorem of_set3 (w : World) (kA : Option Addr) (kn kc op : Nat) (v : Int) (A : Option Addr) (n c p : Nat) (hb : Bool) (cs : List Value) (r : AnsV) (m : Nat) (HS : Hid (∀ w', Below w.heap.size w w' → Calls Try.prog 110 #[.agg #[.int .u8 (op : Int), .slice kA kn kc, .int .i64 v], .slice A n c, .int .i64 (p : Int), .bool hb] w' (OfEnd w' cs r m))) (q2 : ((op : Int) == 2) = false) (q3 : ((op : Int) == 3) = true) (HF : Hid (∀ w', Below w.heap.size w w' → Calls Try.prog 109 #[.slice A n c, .slice kA kn kc] w' fun e w1 => e = .returned (.tuple #[.int .i64 (p : Int), .bool hb]) ∧ Below w'.heap.size w' w1)) :
    Calls Try.prog 88 #[.agg #[.int .u8 (op : Int), .slice kA kn kc, .int .i64 v], .slice A n c] w (OfEnd w cs r m) := by
  have hb0 : Below w.heap.size w ((w.alloc (.cells #[.int .u8 (op : Int), .slice kA kn kc, .int .i64 v] 149)).alloc (.cells #[.bool false, .int .i64 0, .int .i64 0] 79)) := ((Below.refl w.heap.size w).alloc (by simp) _).alloc (by simp) _
  have HF1 := Lib.hid (HF.out _ hb0)
  have HB0 := Lib.hid hb0
  clear HF hb0
  have kc0 := (BlkL.new w [.int .u8 (op : Int), .slice kA kn kc, .int .i64 v] 149).alloc (.cells #[.bool false, .int .i64 0, .int .i64 0] 79)
  have kr0 := BlkL.new (w.alloc (.cells #[.int .u8 (op : Int), .slice kA kn kc, .int .i64 v] 149)) [.bool false, .int .i64 0, .int .i64 0] 79
  rw [World.size_alloc] at kr0
  have KC0 := Lib.hid kc0
  have KR0 := Lib.hid kr0
  clear kc0 kr0
  go_enter Try.func88, Try.ntmps88
  go_wp2_with fail
  with_reducible refine (HF1.out).mono ?_
  rintro e w1 ⟨rfl, hb1⟩
  have kc1 := KC0.out.below hb1
  have kr1 := KR0.out.below hb1
  have HB1 := Lib.hid (HB0.out.trans (hb1.mono HB0.out.size))
  clear hb1 KC0 KR0 HF1
  have c0 := kc1.cell 0 _ rfl
  have c1 := kc1.cell 1 _ rfl
  have c2 := kc1.cell 2 _ rfl
  have cl := kc1.lt
  have r0 := kr1.cell 0 _ rfl
  have r1 := kr1.cell 1 _ rfl
  have r2 := kr1.cell 2 _ rfl
  have g0 := kr1.froz 0 (by simp)
  have g1 := kr1.froz 1 (by simp)
  have g2 := kr1.froz 2 (by simp)
  have rl := kr1.lt
  have KC1 := Lib.hid kc1
  have KR1 := Lib.hid kr1
  clear kc1 kr1
  have HS1 := Lib.hid (HS.out _ HB1.out)
  clear HS
  go_wp2_with fail
  with_reducible refine (HS1.out).mono ?_
  rintro e w2 ⟨A', c', rfl, ho, hb2⟩
  have kr2 := KR1.out.below hb2
  have HBB := Lib.hid (HB1.out.trans (hb2.mono HB1.out.size))
  have HK := Lib.hid ho
  clear r0 r1 r2 g0 g1 g2 ho hb2 HS1
  have r0 := kr2.cell 0 _ rfl
  have r1 := kr2.cell 1 _ rfl
  have r2 := kr2.cell 2 _ rfl
  have g0 := kr2.froz 0 (by simp)
  have g1 := kr2.froz 1 (by simp)
  have g2 := kr2.froz 2 (by simp)
  have rl2 := kr2.lt
  have KR2 := Lib.hid kr2
  clear kr2
  have HSZ := Lib.hid (And.intro cl rl)
  go_wp2
  have bz := KR2.out.put3 (.bool true) (.int .i64 r.E) (.int .i64 r.N)
  have z0 := bz.cell 0 _ rfl
  have z1 := bz.cell 1 _ rfl
  have z2 := bz.cell 2 _ rfl
  have hoz := (((HK.out.other (b := w.heap.size + 1) (i := 0) (v := .bool true) HSZ.out.2).other (b := w.heap.size + 1) (i := 1) (v := .int .i64 r.E) HSZ.out.2).other (b := w.heap.size + 1) (i := 2) (v := .int .i64 r.N) HSZ.out.2).mono (B' := w.heap.size) HB1.out.size
  have hbz := below_put3 HBB.out (b := w.heap.size + 1) (by omega) (.bool true) (.int .i64 r.E) (.int .i64 r.N)
  clear bz r0 r1 r2 g0 g1 g2
  exact bodyPost_ret (v := .tuple #[.agg #[.bool true, .int .i64 r.E, .int .i64 r.N], .slice A' m c']) (by simp [results, Try.results88, go_sem, z0, z1, z2]) rfl ⟨A', c', rfl, hoz, hbz⟩

set_option maxHeartbeats 3200000 in
theorem of_none (w : World) (kA : Option Addr) (kn kc op : Nat) (v : Int) (A : Option Addr) (n c p : Nat) (q2 : ((op : Int) == 2) = false) (q3 : ((op : Int) == 3) = false) (HF : Hid (∀ w', Below w.heap.size w w' → Calls Try.prog 109 #[.slice A n c, .slice kA kn kc] w' fun e w1 => e = .returned (.tuple #[.int .i64 (p : Int), .bool false]) ∧ Below w'.heap.size w' w1)) :
    Calls Try.prog 88 #[.agg #[.int .u8 (op : Int), .slice kA kn kc, .int .i64 v], .slice A n c] w (OfEnd w [] ⟨7, 0⟩ 0) := by
  have hb0 : Below w.heap.size w ((w.alloc (.cells #[.int .u8 (op : Int), .slice kA kn kc, .int .i64 v] 149)).alloc (.cells #[.bool false, .int .i64 0, .int .i64 0] 79)) := ((Below.refl w.heap.size w).alloc (by simp) _).alloc (by simp) _
  have HF1 := Lib.hid (HF.out _ hb0)
  have HB0 := Lib.hid hb0
  clear HF hb0
  have kc0 := (BlkL.new w [.int .u8 (op : Int), .slice kA kn kc, .int .i64 v] 149).alloc (.cells #[.bool false, .int .i64 0, .int .i64 0] 79)
  have kr0 := BlkL.new (w.alloc (.cells #[.int .u8 (op : Int), .slice kA kn kc, .int .i64 v] 149)) [.bool false, .int .i64 0, .int .i64 0] 79
  rw [World.size_alloc] at kr0
  have KC0 := Lib.hid kc0
  have KR0 := Lib.hid kr0
  clear kc0 kr0
  go_enter Try.func88, Try.ntmps88
  go_wp2_with fail
  with_reducible refine (HF1.out).mono ?_
  rintro e w1 ⟨rfl, hb1⟩
  have kc1 := KC0.out.below hb1
  have kr1 := KR0.out.below hb1
  have HB1 := Lib.hid (HB0.out.trans (hb1.mono HB0.out.size))
  clear hb1 KC0 KR0 HF1
  have c0 := kc1.cell 0 _ rfl
  have c1 := kc1.cell 1 _ rfl
  have c2 := kc1.cell 2 _ rfl
  have cl := kc1.lt
  have r0 := kr1.cell 0 _ rfl
  have r1 := kr1.cell 1 _ rfl
  have r2 := kr1.cell 2 _ rfl
  have g0 := kr1.froz 0 (by simp)
  have g1 := kr1.froz 1 (by simp)
  have g2 := kr1.froz 2 (by simp)
  have rl := kr1.lt
  have KC1 := Lib.hid kc1
  have KR1 := Lib.hid kr1
  clear kc1 kr1
  go_wp2
  have bz := KR1.out.put3 (.bool true) (.int .i64 7) (.int .i64 0)
  have z0 := bz.cell 0 _ rfl
  have z1 := bz.cell 1 _ rfl
  have z2 := bz.cell 2 _ rfl
  have hbz := below_put3 HB1.out (b := w.heap.size + 1) (by omega) (.bool true) (.int .i64 7) (.int .i64 0)
  clear bz r0 r1 r2 g0 g1 g2
  exact bodyPost_ret (v := .tuple #[.agg #[.bool true, .int .i64 7, .int .i64 0], .slice none 0 0]) (by simp [results, Try.results88, go_sem, z0, z1, z2]) rfl ⟨none, 0, rfl, OwnC.nil _ _ _ _, hbz⟩

set_option maxHeartbeats 3200000 in
theorem of_get (w : World) (kA : Option Addr) (kn kc op : Nat) (v : Int) (A : Option Addr) (n c p : Nat) (q2 : ((op : Int) == 2) = false) (q3 : ((op : Int) == 3) = false) (b off : Nat) (x : Int) (hA : A = some ⟨b, off, none⟩) (hcx : w.cell? ⟨b, off + p * 2 + 1, none⟩ = some (.int .i64 x)) (hbl : b < w.heap.size) (hp1 : p < n) (hle : n ≤ c) (hc : c ≤ 9223372036854775807) (q1 : ((op : Int) == 1) = true) (HF : Hid (∀ w', Below w.heap.size w w' → Calls Try.prog 109 #[.slice A n c, .slice kA kn kc] w' fun e w1 => e = .returned (.tuple #[.int .i64 (p : Int), .bool true]) ∧ Below w'.heap.size w' w1)) :
    Calls Try.prog 88 #[.agg #[.int .u8 (op : Int), .slice kA kn kc, .int .i64 v], .slice A n c] w (OfEnd w [] ⟨0, x⟩ 0) := by
  subst hA
  have b2 : (0 : Int) ≤ (p : Int) := by omega
  have b3 : (p : Int) < (n : Int) := by omega
  have b4 : (p : Int) ≤ (c : Int) := by omega
  have hb0 : Below w.heap.size w ((w.alloc (.cells #[.int .u8 (op : Int), .slice kA kn kc, .int .i64 v] 149)).alloc (.cells #[.bool false, .int .i64 0, .int .i64 0] 79)) := ((Below.refl w.heap.size w).alloc (by simp) _).alloc (by simp) _
  have HF1 := Lib.hid (HF.out _ hb0)
  have HB0 := Lib.hid hb0
  clear HF hb0
  have kc0 := (BlkL.new w [.int .u8 (op : Int), .slice kA kn kc, .int .i64 v] 149).alloc (.cells #[.bool false, .int .i64 0, .int .i64 0] 79)
  have kr0 := BlkL.new (w.alloc (.cells #[.int .u8 (op : Int), .slice kA kn kc, .int .i64 v] 149)) [.bool false, .int .i64 0, .int .i64 0] 79
  rw [World.size_alloc] at kr0
  have KC0 := Lib.hid kc0
  have KR0 := Lib.hid kr0
  clear kc0 kr0
  go_enter Try.func88, Try.ntmps88
  go_wp2_with fail
  with_reducible refine (HF1.out).mono ?_
  rintro e w1 ⟨rfl, hb1⟩
  have kc1 := KC0.out.below hb1
  have kr1 := KR0.out.below hb1
  have HB1 := Lib.hid (HB0.out.trans (hb1.mono HB0.out.size))
  have gx := (HB1.out.cell (p := ⟨b, off + p * 2 + 1, none⟩) hbl).trans hcx
  clear hb1 KC0 KR0 HF1
  have c0 := kc1.cell 0 _ rfl
  have c1 := kc1.cell 1 _ rfl
  have c2 := kc1.cell 2 _ rfl
  have cl := kc1.lt
  have r0 := kr1.cell 0 _ rfl
  have r1 := kr1.cell 1 _ rfl
  have r2 := kr1.cell 2 _ rfl
  have g0 := kr1.froz 0 (by simp)
  have g1 := kr1.froz 1 (by simp)
  have g2 := kr1.froz 2 (by simp)
  have rl := kr1.lt
  have KC1 := Lib.hid kc1
  have KR1 := Lib.hid kr1
  clear kc1 kr1
  go_wp2
  have bz := (KR1.out.put3 (.bool true) (.int .i64 0) (.int .i64 x)).alloc (.cells #[.bool true, .int .i64 0, .int .i64 x] 79)
  have z0 := bz.cell 0 _ rfl
  have z1 := bz.cell 1 _ rfl
  have z2 := bz.cell 2 _ rfl
  have hbz := (below_put3 HB1.out (b := w.heap.size + 1) (by omega) (.bool true) (.int .i64 0) (.int .i64 x)).alloc (by simp; exact HB1.out.size) (.cells #[.bool true, .int .i64 0, .int .i64 x] 79)
  clear bz r0 r1 r2 g0 g1 g2
  exact bodyPost_ret (v := .tuple #[.agg #[.bool true, .int .i64 0, .int .i64 x], .slice none 0 0]) (by simp [results, Try.results88, go_sem, z0, z1, z2]) rfl ⟨none, 0, rfl, OwnC.nil _ _ _ _, hbz⟩

set_option maxHeartbeats 3200000 in
theorem of_drop (w : World) (kA : Option Addr) (kn kc op : Nat) (v : Int) (A : Option Addr) (n c p : Nat) (q2 : ((op : Int) == 2) = false) (q3 : ((op : Int) == 3) = false) (b off : Nat) (x : Int) (hA : A = some ⟨b, off, none⟩) (hcx : w.cell? ⟨b, off + p * 2 + 1, none⟩ = some (.int .i64 x)) (hbl : b < w.heap.size) (hp1 : p < n) (hle : n ≤ c) (hc : c ≤ 9223372036854775807) (q1 : ((op : Int) == 1) = false) (cs : List Value) (h : ArgC w w.heap.size 2 A n c cs) (h1 : ∀ u ∈ cs, u.oneCell' = true) (hn1 : n ≤ 4096) (HF : Hid (∀ w', Below w.heap.size w w' → Calls Try.prog 109 #[.slice A n c, .slice kA kn kc] w' fun e w1 => e = .returned (.tuple #[.int .i64 (p : Int), .bool true]) ∧ Below w'.heap.size w' w1)) :
    Calls Try.prog 88 #[.agg #[.int .u8 (op : Int), .slice kA kn kc, .int .i64 v], .slice A n c] w (OfEnd w (cs.take (p * 2) ++ cs.drop ((p + 1) * 2)) ⟨0, x⟩ (n - 1)) := by
  subst hA
  have b2 : (0 : Int) ≤ (p : Int) := by omega
  have b3 : (p : Int) < (n : Int) := by omega
  have b4 : (p : Int) ≤ (c : Int) := by omega
  have b5 : (0 : Int) ≤ (p : Int) + 1 := by omega
  have b6 : (p : Int) + 1 ≤ (n : Int) := by omega
  have b7 : (p : Int) + 1 ≤ (c : Int) := by omega
  have b8 : ((p : Int) + 1).toNat = p + 1 := by omega
  have hs1 : ∀ w, (Instr.sliceAt 140 (.slice (some ⟨b, off, none⟩) n c) (some (.int .i64 ((p : Int) + 1))) none none).run Try.prog w = .ok (.slice (frA (some ⟨b, off, none⟩) c (p + 1)) (n - (p + 1)) (c - (p + 1))) w := fun w => by have := run_from_ent w (some ⟨b, off, none⟩) n c (p + 1) (by omega); rw [show ((p + 1 : Nat) : Int) = (p : Int) + 1 by omega] at this; exact this
  have hs2 : ∀ w, (Instr.slice 140 (.slice (some ⟨b, off, none⟩) n c) (some (.int .i64 ((p : Int) + 1))) none none).run Try.prog w = .ok (.slice (frA (some ⟨b, off, none⟩) c (p + 1)) (n - (p + 1)) (c - (p + 1))) w := fun w => by have := run_from_ent2 w (some ⟨b, off, none⟩) n c (p + 1) (by omega); rw [show ((p + 1 : Nat) : Int) = (p : Int) + 1 by omega] at this; exact this
  have HA := Lib.hid h
  have H1 := Lib.hid h1
  clear h h1
  have hb0 : Below w.heap.size w ((w.alloc (.cells #[.int .u8 (op : Int), .slice kA kn kc, .int .i64 v] 149)).alloc (.cells #[.bool false, .int .i64 0, .int .i64 0] 79)) := ((Below.refl w.heap.size w).alloc (by simp) _).alloc (by simp) _
  have HF1 := Lib.hid (HF.out _ hb0)
  have HB0 := Lib.hid hb0
  clear HF hb0
  have kc0 := (BlkL.new w [.int .u8 (op : Int), .slice kA kn kc, .int .i64 v] 149).alloc (.cells #[.bool false, .int .i64 0, .int .i64 0] 79)
  have kr0 := BlkL.new (w.alloc (.cells #[.int .u8 (op : Int), .slice kA kn kc, .int .i64 v] 149)) [.bool false, .int .i64 0, .int .i64 0] 79
  rw [World.size_alloc] at kr0
  have KC0 := Lib.hid kc0
  have KR0 := Lib.hid kr0
  clear kc0 kr0
  go_enter Try.func88, Try.ntmps88
  go_wp2_with fail
  with_reducible refine (HF1.out).mono ?_
  rintro e w1 ⟨rfl, hb1⟩
  have kc1 := KC0.out.below hb1
  have kr1 := KR0.out.below hb1
  have HB1 := Lib.hid (HB0.out.trans (hb1.mono HB0.out.size))
  have gx := (HB1.out.cell (p := ⟨b, off + p * 2 + 1, none⟩) hbl).trans hcx
  clear hb1 KC0 KR0 HF1
  have c0 := kc1.cell 0 _ rfl
  have c1 := kc1.cell 1 _ rfl
  have c2 := kc1.cell 2 _ rfl
  have cl := kc1.lt
  have r0 := kr1.cell 0 _ rfl
  have r1 := kr1.cell 1 _ rfl
  have r2 := kr1.cell 2 _ rfl
  have g0 := kr1.froz 0 (by simp)
  have g1 := kr1.froz 1 (by simp)
  have g2 := kr1.froz 2 (by simp)
  have rl := kr1.lt
  have KC1 := Lib.hid kc1
  have KR1 := Lib.hid kr1
  clear kc1 kr1
  have hb3 : Below w1.heap.size w1 (w1.alloc (.cells #[.bool true, .int .i64 0, .int .i64 x] 79)) := (Below.refl _ w1).alloc (Nat.le_refl _) _
  have G := ((HA.out.below HB1.out).more (B' := w1.heap.size) HB1.out.size |>.below hb3).more hb3.size
  have hx := concatE_two_d (w1.alloc (.cells #[.bool true, .int .i64 0, .int .i64 x] 79)) (w1.heap.size + 1) (some ⟨b, off, none⟩) (frA (some ⟨b, off, none⟩) c (p + 1)) p c (n - (p + 1)) (c - (p + 1)) (n - 1) _ _ (G.to_ (m := p) (by omega)) (G.from_ (q := p + 1) (by omega)) (fun u hu => H1.out u (List.mem_of_mem_take hu)) (fun u hu => H1.out u (List.mem_of_mem_drop hu)) (by simp) (by omega) (by omega)
  have HX := Lib.hid hx
  have k8 := BlkL.new w1 [.bool true, .int .i64 0, .int .i64 x] 79
  have K8 := Lib.hid k8
  have HB3 := Lib.hid (HB1.out.trans (hb3.mono HB1.out.size))
  have KR3 := Lib.hid (KR1.out.alloc (.cells #[.bool true, .int .i64 0, .int .i64 x] 79))
  clear hb3 G hx k8
  go_wp2_with fail
  have rlx := rl
  have b9 : IntKind.i64.wrap ((p : Int) + 1) = (p : Int) + 1 := IntWalk.i64_in _ (by omega)
  go_region_held3 (fun w' => w'.cell? ⟨w1.heap.size, 0, none⟩ = some (.bool true) ∧ w'.cell? ⟨w1.heap.size, 1, none⟩ = some (.int .i64 0) ∧ w'.cell? ⟨w1.heap.size, 2, none⟩ = some (.int .i64 x)) (first | go_keep | (refine ⟨?_, ?_, ?_⟩ <;> (rw [World.cell?_setCell_other _ _ _ _ (by simp <;> omega), World.cell?_setCell_other _ _ _ _ (by simp <;> omega), World.cell?_setCell_other _ _ _ _ (by simp <;> omega)]; assumption))) (((with_reducible refine (HX.out).mono ?_); rintro e w2 ⟨A', c', rfl, ho, hb⟩; have k8 := K8.out.below hb; have hc0 := k8.cell 0 _ rfl; have hc1 := k8.cell 1 _ rfl; have hc2 := k8.cell 2 _ rfl; have kr := KR3.out.below hb; clear r0 r1 r2 g0 g1 g2 rl; have r0 := kr.cell 0 _ rfl; have r1 := kr.cell 1 _ rfl; have r2 := kr.cell 2 _ rfl; have g0 := kr.froz 0 (by simp); have g1 := kr.froz 1 (by simp); have g2 := kr.froz 2 (by simp); have rl := kr.lt; have KR := Lib.hid kr; have HO := Lib.hid (And.intro ho hb); clear ho hb k8 kr))
  clear b9
  obtain ⟨ho, hb⟩ := HO.out
  have HBB := Lib.hid (HB3.out.trans (hb.mono HB3.out.size))
  have HK := Lib.hid ho
  clear HO ho hb
  have HSZ := Lib.hid (show w.heap.size + 1 < (w1.alloc (.cells #[.bool true, .int .i64 0, .int .i64 x] 79)).heap.size by rw [World.size_alloc]; omega)
  go_wp2
  have bz := KR.out.put3 (.bool true) (.int .i64 0) (.int .i64 x)
  have z0 := bz.cell 0 _ rfl
  have z1 := bz.cell 1 _ rfl
  have z2 := bz.cell 2 _ rfl
  have hoz := (((HK.out.other (b := w.heap.size + 1) (i := 0) (v := .bool true) HSZ.out).other (b := w.heap.size + 1) (i := 1) (v := .int .i64 0) HSZ.out).other (b := w.heap.size + 1) (i := 2) (v := .int .i64 x) HSZ.out).mono (B' := w.heap.size) HB3.out.size
  have hbz := below_put3 HBB.out (b := w.heap.size + 1) (by omega) (.bool true) (.int .i64 0) (.int .i64 x)
  clear bz r0 r1 r2 g0 g1 g2
  exact bodyPost_ret (v := .tuple #[.agg #[.bool true, .int .i64 0, .int .i64 x], .slice A' (n - 1) c']) (by simp [results, Try.results88, go_sem, z0, z1, z2]) rfl ⟨A', c', rfl, hoz, hbz⟩

end Go.Proofs.Ytpjgpiiibgogeaa
