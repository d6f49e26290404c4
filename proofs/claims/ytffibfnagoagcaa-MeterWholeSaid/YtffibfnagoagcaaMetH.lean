/- Contract: figures of meter, where the sum draws a NaN. -/
import Derived.Test.YtffibfnagoagcaaMetG
import Derived.Deep.RegionHeld3
import Derived.BigRegion
import Derived.Deep.QuietTactic
import Derived.BigQuiet
import Derived.Deep.DeepCutAuto
namespace Go.Proofs.Ytffibfnagoagcaa
open Go.RowKit
set_option maxRecDepth 100000
set_option linter.unusedVariables false

/-- What the region reads. -/
structure SW (z asu alw ahi bsu blw bhi : Nat) (w : World) : Prop where
  a2 : w.cell? ⟨z, 2, none⟩ = some (.float .f64 asu)
  a4 : w.cell? ⟨z, 4, none⟩ = some (.float .f64 alw)
  a5 : w.cell? ⟨z, 5, none⟩ = some (.float .f64 ahi)
  b2 : w.cell? ⟨z + 1, 2, none⟩ = some (.float .f64 bsu)
  b4 : w.cell? ⟨z + 1, 4, none⟩ = some (.float .f64 blw)
  b5 : w.cell? ⟨z + 1, 5, none⟩ = some (.float .f64 bhi)
  lt : z + 1 < w.heap.size
theorem SW.below {z asu alw ahi bsu blw bhi : Nat} {w w' : World} (h : SW z asu alw ahi bsu blw bhi w) (hb : Below w.heap.size w w') : SW z asu alw ahi bsu blw bhi w' := by
  have hl := h.lt
  have e : ∀ b o, b ≤ z + 1 → w'.cell? ⟨b, o, none⟩ = w.cell? ⟨b, o, none⟩ := fun b o hb' => hb.cell (p := ⟨b, o, none⟩) (show b < w.heap.size by omega)
  exact ⟨(e _ _ (by omega)).trans h.a2, (e _ _ (by omega)).trans h.a4, (e _ _ (by omega)).trans h.a5, (e _ _ (by omega)).trans h.b2, (e _ _ (by omega)).trans h.b4, (e _ _ (by omega)).trans h.b5, Nat.lt_of_lt_of_le hl hb.size⟩
set_option maxHeartbeats 6400000 in
theorem figs_nan (w : World) (a b : MV) (oka : a.Ok) (okb : b.Ok) (h0 : ¬ a.n = 0) (h : ¬ b.n = 0) (hn : 0 ≤ a.n ∧ 0 ≤ b.n ∧ a.n + b.n ≤ 9007199254740992) (bo : Bool) (hf : fnB (fop .add (canB a.sum) (canB b.sum)) = bo) (hs : floatBits .add .f64 a.sum b.sum = none) :
    Calls Try.prog 50 #[a.val, b.val] w fun e w' => ∃ m : MV, e = .returned m.val ∧ m.Ok ∧ m.can = mrgC a.can b.can ∧ Below w.heap.size w w' := by
  obtain ⟨an, abad, asu, alo, alw, ahi, ame, asp⟩ := a
  obtain ⟨bn, bbad, bsu, blo, blw, bhi, bme, bsp⟩ := b
  simp only at h h0 hn hf hs
  have hadd : ∀ (t : TypeId) (w : World), (binOp .add t (.float .f64 asu) (.float .f64 bsu)).run Try.prog w = .ok (.float .f64 (fV .add asu bsu w)) w.drew := fun t w => by
    rw [run_fV Try.prog rfl]
    have e : fK .add asu bsu = 1 := by unfold fK; rw [hs]; rfl
    rw [e]; rfl
  obtain ⟨rl, hrl, crl, HL⟩ := leastP_can alw blw oka.low okb.low
  obtain ⟨rh, hrh, crh, HH⟩ := mostP_can ahi bhi oka.high okb.high
  have CRL := Lib.hid crl
  have CRH := Lib.hid crh
  have HF0 := Lib.hid hf
  have HHL := Lib.hid HL
  have HHH := Lib.hid HH
  have OKA := Lib.hid oka
  have OKB := Lib.hid okb
  clear crl crh hf HL HH oka okb
  have kst : ∀ (a : Addr) (x : Nat) (w : World), (store a (.float .f64 x)).run Try.prog w = stored Try.prog w a (.float .f64 x) .plain := fun a x w => run_store _ _ _ _ _ rfl
  simp only [MV.val, MV.can]
  have d0 : (an == 0) = false := beq_eq_false_iff_ne.2 h0
  have d1 : (bn == 0) = false := beq_eq_false_iff_ne.2 h
  go_enter Try.func50, Try.ntmps50
  go_wp2
  have K1 := Lib.hid (((BlkL.new w [.int .i64 an, .int .i64 abad, .float .f64 asu, .float .f64 alo, .float .f64 alw, .float .f64 ahi, .float .f64 ame, .float .f64 asp] 29).alloc (.cells #[.int .i64 bn, .int .i64 bbad, .float .f64 bsu, .float .f64 blo, .float .f64 blw, .float .f64 bhi, .float .f64 bme, .float .f64 bsp] 29)).alloc (.cells #[.int .i64 0, .int .i64 0, .float .f64 0, .float .f64 0, .float .f64 0, .float .f64 0, .float .f64 0, .float .f64 0] 29))
  have k2 := (BlkL.new (w.alloc (.cells #[.int .i64 an, .int .i64 abad, .float .f64 asu, .float .f64 alo, .float .f64 alw, .float .f64 ahi, .float .f64 ame, .float .f64 asp] 29)) [.int .i64 bn, .int .i64 bbad, .float .f64 bsu, .float .f64 blo, .float .f64 blw, .float .f64 bhi, .float .f64 bme, .float .f64 bsp] 29).alloc (.cells #[.int .i64 0, .int .i64 0, .float .f64 0, .float .f64 0, .float .f64 0, .float .f64 0, .float .f64 0, .float .f64 0] 29)
  have k3 := BlkL.new ((w.alloc (.cells #[.int .i64 an, .int .i64 abad, .float .f64 asu, .float .f64 alo, .float .f64 alw, .float .f64 ahi, .float .f64 ame, .float .f64 asp] 29)).alloc (.cells #[.int .i64 bn, .int .i64 bbad, .float .f64 bsu, .float .f64 blo, .float .f64 blw, .float .f64 bhi, .float .f64 bme, .float .f64 bsp] 29)) [.int .i64 0, .int .i64 0, .float .f64 0, .float .f64 0, .float .f64 0, .float .f64 0, .float .f64 0, .float .f64 0] 29
  simp only [World.size_alloc] at k2 k3
  have K2 := Lib.hid k2
  have K3 := Lib.hid k3
  have HB := Lib.hid ((((Below.refl w.heap.size w).alloc (Nat.le_refl _) (.cells #[.int .i64 an, .int .i64 abad, .float .f64 asu, .float .f64 alo, .float .f64 alw, .float .f64 ahi, .float .f64 ame, .float .f64 asp] 29)).alloc (by simp) (.cells #[.int .i64 bn, .int .i64 bbad, .float .f64 bsu, .float .f64 blo, .float .f64 blw, .float .f64 bhi, .float .f64 bme, .float .f64 bsp] 29)).alloc (by simp; omega) (.cells #[.int .i64 0, .int .i64 0, .float .f64 0, .float .f64 0, .float .f64 0, .float .f64 0, .float .f64 0, .float .f64 0] 29))
  have hsz : (((w.alloc (.cells #[.int .i64 an, .int .i64 abad, .float .f64 asu, .float .f64 alo, .float .f64 alw, .float .f64 ahi, .float .f64 ame, .float .f64 asp] 29)).alloc (.cells #[.int .i64 bn, .int .i64 bbad, .float .f64 bsu, .float .f64 blo, .float .f64 blw, .float .f64 bhi, .float .f64 bme, .float .f64 bsp] 29)).alloc (.cells #[.int .i64 0, .int .i64 0, .float .f64 0, .float .f64 0, .float .f64 0, .float .f64 0, .float .f64 0, .float .f64 0] 29)).heap.size = w.heap.size + 1 + 1 + 1 := by simp
  clear k2 k3
  generalize hW : ((w.alloc (.cells #[.int .i64 an, .int .i64 abad, .float .f64 asu, .float .f64 alo, .float .f64 alw, .float .f64 ahi, .float .f64 ame, .float .f64 asp] 29)).alloc (.cells #[.int .i64 bn, .int .i64 bbad, .float .f64 bsu, .float .f64 blo, .float .f64 blw, .float .f64 bhi, .float .f64 bme, .float .f64 bsp] 29)).alloc (.cells #[.int .i64 0, .int .i64 0, .float .f64 0, .float .f64 0, .float .f64 0, .float .f64 0, .float .f64 0, .float .f64 0] 29) = wA at *
  generalize hz : w.heap.size = z at *
  have hS0 : SW z asu alw ahi bsu blw bhi wA := ⟨K1.out.cell 2 _ rfl, K1.out.cell 4 _ rfl, K1.out.cell 5 _ rfl, K2.out.cell 2 _ rfl, K2.out.cell 4 _ rfl, K2.out.cell 5 _ rfl, by omega⟩
  go_cut [5] (fun s5 wx => s5 = .pointer (some ⟨z + 1 + 1 + 1, 0, none⟩) ∧ ∃ s k : Nat, s ≤ 18446744073709551615 ∧ canB s = fop .add (canB asu) (canB bsu) ∧ wx = (wA.alloc (.cells #[.int .i64 0, .int .i64 0, .float .f64 s, .float .f64 0, .float .f64 rl, .float .f64 rh, .float .f64 0, .float .f64 0] 29)).drewN k)
  case first =>
    refine wp_region_held_drew (S := SW z asu alw ahi bsu blw bhi) (by kernel_rfl) (hS0.below (Below.refl _ _).drew) (fun hHeld => ?_)
    refine wpAnyH_take (i := 0) (oi := { dst := some 21, op := Op.fieldAddr 29 (Operand.tmp 2) 2, type := 0, pos := "meter.go:109", after := #[], guard := none }) (v := .pointer (some ⟨z, 2, none⟩)) rfl (by kernel_rfl) (by kernel_rfl) (by kernel_rfl) (fun _ _ _ h => h) (Or.inl ⟨by rfl, fun w hSw => ?_⟩) hHeld ?_
    · obtain ⟨s1, s2, s3, s4, s5, s6, s7⟩ := hSw
      go_simp
    try simp only [Act.put, List.setIfInBounds_toArray, List.set_cons_zero, List.set_cons_succ]
    refine wpAnyH_take (i := 1) (oi := { dst := some 22, op := Op.load 27 (Operand.tmp 21), type := 27, pos := "meter.go:109", after := #[{ on := 0, ground := Ground.data }], guard := none }) (v := .float .f64 asu) rfl (by kernel_rfl) (by kernel_rfl) (by kernel_rfl) (fun _ _ _ h => h) (Or.inl ⟨by rfl, fun w hSw => ?_⟩) hHeld ?_
    · obtain ⟨s1, s2, s3, s4, s5, s6, s7⟩ := hSw
      go_simp
    try simp only [Act.put, List.setIfInBounds_toArray, List.set_cons_zero, List.set_cons_succ]
    refine wpAnyH_take (i := 2) (oi := { dst := some 23, op := Op.fieldAddr 29 (Operand.tmp 3) 2, type := 0, pos := "meter.go:109", after := #[], guard := none }) (v := .pointer (some ⟨z + 1, 2, none⟩)) rfl (by kernel_rfl) (by kernel_rfl) (by kernel_rfl) (fun _ _ _ h => h) (Or.inl ⟨by rfl, fun w hSw => ?_⟩) hHeld ?_
    · obtain ⟨s1, s2, s3, s4, s5, s6, s7⟩ := hSw
      go_simp
    try simp only [Act.put, List.setIfInBounds_toArray, List.set_cons_zero, List.set_cons_succ]
    refine wpAnyH_take (i := 3) (oi := { dst := some 24, op := Op.load 27 (Operand.tmp 23), type := 27, pos := "meter.go:109", after := #[{ on := 2, ground := Ground.data }], guard := none }) (v := .float .f64 bsu) rfl (by kernel_rfl) (by kernel_rfl) (by kernel_rfl) (fun _ _ _ h => h) (Or.inl ⟨by rfl, fun w hSw => ?_⟩) hHeld ?_
    · obtain ⟨s1, s2, s3, s4, s5, s6, s7⟩ := hSw
      go_simp
    try simp only [Act.put, List.setIfInBounds_toArray, List.set_cons_zero, List.set_cons_succ]
    refine wpAnyH_take (i := 5) (oi := { dst := some 26, op := Op.fieldAddr 29 (Operand.tmp 2) 4, type := 0, pos := "meter.go:109", after := #[], guard := none }) (v := .pointer (some ⟨z, 4, none⟩)) rfl (by kernel_rfl) (by kernel_rfl) (by kernel_rfl) (fun _ _ _ h => h) (Or.inl ⟨by rfl, fun w hSw => ?_⟩) hHeld ?_
    · obtain ⟨s1, s2, s3, s4, s5, s6, s7⟩ := hSw
      go_simp
    try simp only [Act.put, List.setIfInBounds_toArray, List.set_cons_zero, List.set_cons_succ]
    refine wpAnyH_take (i := 6) (oi := { dst := some 27, op := Op.load 27 (Operand.tmp 26), type := 27, pos := "meter.go:109", after := #[{ on := 5, ground := Ground.data }], guard := none }) (v := .float .f64 alw) rfl (by kernel_rfl) (by kernel_rfl) (by kernel_rfl) (fun _ _ _ h => h) (Or.inl ⟨by rfl, fun w hSw => ?_⟩) hHeld ?_
    · obtain ⟨s1, s2, s3, s4, s5, s6, s7⟩ := hSw
      go_simp
    try simp only [Act.put, List.setIfInBounds_toArray, List.set_cons_zero, List.set_cons_succ]
    refine wpAnyH_take (i := 7) (oi := { dst := some 28, op := Op.fieldAddr 29 (Operand.tmp 3) 4, type := 0, pos := "meter.go:109", after := #[], guard := none }) (v := .pointer (some ⟨z + 1, 4, none⟩)) rfl (by kernel_rfl) (by kernel_rfl) (by kernel_rfl) (fun _ _ _ h => h) (Or.inl ⟨by rfl, fun w hSw => ?_⟩) hHeld ?_
    · obtain ⟨s1, s2, s3, s4, s5, s6, s7⟩ := hSw
      go_simp
    try simp only [Act.put, List.setIfInBounds_toArray, List.set_cons_zero, List.set_cons_succ]
    refine wpAnyH_take (i := 8) (oi := { dst := some 29, op := Op.load 27 (Operand.tmp 28), type := 27, pos := "meter.go:109", after := #[{ on := 7, ground := Ground.data }], guard := none }) (v := .float .f64 blw) rfl (by kernel_rfl) (by kernel_rfl) (by kernel_rfl) (fun _ _ _ h => h) (Or.inl ⟨by rfl, fun w hSw => ?_⟩) hHeld ?_
    · obtain ⟨s1, s2, s3, s4, s5, s6, s7⟩ := hSw
      go_simp
    try simp only [Act.put, List.setIfInBounds_toArray, List.set_cons_zero, List.set_cons_succ]
    refine wpAnyH_take (i := 10) (oi := { dst := some 31, op := Op.fieldAddr 29 (Operand.tmp 2) 5, type := 0, pos := "meter.go:109", after := #[], guard := none }) (v := .pointer (some ⟨z, 5, none⟩)) rfl (by kernel_rfl) (by kernel_rfl) (by kernel_rfl) (fun _ _ _ h => h) (Or.inl ⟨by rfl, fun w hSw => ?_⟩) hHeld ?_
    · obtain ⟨s1, s2, s3, s4, s5, s6, s7⟩ := hSw
      go_simp
    try simp only [Act.put, List.setIfInBounds_toArray, List.set_cons_zero, List.set_cons_succ]
    refine wpAnyH_take (i := 11) (oi := { dst := some 32, op := Op.load 27 (Operand.tmp 31), type := 27, pos := "meter.go:109", after := #[{ on := 10, ground := Ground.data }], guard := none }) (v := .float .f64 ahi) rfl (by kernel_rfl) (by kernel_rfl) (by kernel_rfl) (fun _ _ _ h => h) (Or.inl ⟨by rfl, fun w hSw => ?_⟩) hHeld ?_
    · obtain ⟨s1, s2, s3, s4, s5, s6, s7⟩ := hSw
      go_simp
    try simp only [Act.put, List.setIfInBounds_toArray, List.set_cons_zero, List.set_cons_succ]
    refine wpAnyH_take (i := 12) (oi := { dst := some 33, op := Op.fieldAddr 29 (Operand.tmp 3) 5, type := 0, pos := "meter.go:109", after := #[], guard := none }) (v := .pointer (some ⟨z + 1, 5, none⟩)) rfl (by kernel_rfl) (by kernel_rfl) (by kernel_rfl) (fun _ _ _ h => h) (Or.inl ⟨by rfl, fun w hSw => ?_⟩) hHeld ?_
    · obtain ⟨s1, s2, s3, s4, s5, s6, s7⟩ := hSw
      go_simp
    try simp only [Act.put, List.setIfInBounds_toArray, List.set_cons_zero, List.set_cons_succ]
    refine wpAnyH_take (i := 13) (oi := { dst := some 34, op := Op.load 27 (Operand.tmp 33), type := 27, pos := "meter.go:109", after := #[{ on := 12, ground := Ground.data }], guard := none }) (v := .float .f64 bhi) rfl (by kernel_rfl) (by kernel_rfl) (by kernel_rfl) (fun _ _ _ h => h) (Or.inl ⟨by rfl, fun w hSw => ?_⟩) hHeld ?_
    · obtain ⟨s1, s2, s3, s4, s5, s6, s7⟩ := hSw
      go_simp
    try simp only [Act.put, List.setIfInBounds_toArray, List.set_cons_zero, List.set_cons_succ]
    refine wpAnyH_ready (rs := [4, 9, 16]) (by kernel_rfl) (by simp) ?_
    refine AllReadyH.cons (o := { dst := some 25, op := Op.binOp BinOp.add 27 (Operand.tmp 22) (Operand.tmp 24) 27, type := 27, pos := "meter.go:109", after := #[{ on := 1, ground := Ground.data }, { on := 3, ground := Ground.data }], guard := none }) rfl (fun K hK => ?_) ?_
    · skip
      go_simp
      refine hK.out _ _ (hS0.below (by repeat' first | with_reducible exact Below.refl _ _ | with_reducible refine Below.drew ?_ | with_reducible refine below_drewN ?_ _ | with_reducible refine Below.alloc ?_ (by simp) _ | with_reducible refine Below.setCell ?_ (by simp) _)) (fun hHeld => ?_)
      clear hK K
      try simp only [Act.put, List.setIfInBounds_toArray, List.set_cons_zero, List.set_cons_succ]
      generalize hs0 : fV .add asu bsu _ = s0
      refine wpAnyH_ready (rs := [9, 16]) (by kernel_rfl) (by simp) ?_
      refine AllReadyH.cons (o := { dst := some 30, op := Op.call { callee := Callee.value (Operand.func 39), args := #[Operand.tmp 27, Operand.tmp 29], argTypes := #[27, 27] }, type := 27, pos := "meter.go:109", after := #[{ on := 6, ground := Ground.data }, { on := 8, ground := Ground.data }], guard := none }) rfl (fun K hK => ?_) ?_
      · skip
        go_simp
        with_reducible refine (HHL.out _).mono ?_
        rintro e wx ⟨rfl, rfl⟩
        go_wp2_with fail
        refine hK.out _ _ (hS0.below (by repeat' first | with_reducible exact Below.refl _ _ | with_reducible refine Below.drew ?_ | with_reducible refine below_drewN ?_ _ | with_reducible refine Below.alloc ?_ (by simp) _ | with_reducible refine Below.setCell ?_ (by simp) _)) (fun hHeld => ?_)
        clear hK K
        try simp only [Act.put, List.setIfInBounds_toArray, List.set_cons_zero, List.set_cons_succ]
        refine wpAnyH_ready (rs := [14, 16]) (by kernel_rfl) (by simp) ?_
        refine AllReadyH.cons (o := { dst := some 35, op := Op.call { callee := Callee.value (Operand.func 40), args := #[Operand.tmp 32, Operand.tmp 34], argTypes := #[27, 27] }, type := 27, pos := "meter.go:109", after := #[{ on := 11, ground := Ground.data }, { on := 13, ground := Ground.data }, { on := 9, ground := Ground.chain }], guard := none }) rfl (fun K hK => ?_) ?_
        · skip
          go_simp
          with_reducible refine (HHH.out _).mono ?_
          rintro e wx ⟨rfl, rfl⟩
          go_wp2_with fail
          refine hK.out _ _ (hS0.below (by repeat' first | with_reducible exact Below.refl _ _ | with_reducible refine Below.drew ?_ | with_reducible refine below_drewN ?_ _ | with_reducible refine Below.alloc ?_ (by simp) _ | with_reducible refine Below.setCell ?_ (by simp) _)) (fun hHeld => ?_)
          clear hK K
          try simp only [Act.put, List.setIfInBounds_toArray, List.set_cons_zero, List.set_cons_succ]
          refine wpAnyH_take (i := 15) (oi := { dst := some 36, op := Op.build 29 #[(2, Operand.tmp 25), (4, Operand.tmp 30), (5, Operand.tmp 35)], type := 29, pos := "meter.go:109", after := #[{ on := 4, ground := Ground.data }, { on := 9, ground := Ground.data }, { on := 14, ground := Ground.data }], guard := none }) (v := .agg #[.int .i64 0, .int .i64 0, .float .f64 s0, .float .f64 0, .float .f64 rl, .float .f64 rh, .float .f64 0, .float .f64 0]) rfl (by kernel_rfl) (by kernel_rfl) (by kernel_rfl) (fun _ _ _ h => h) (Or.inl ⟨by rfl, fun w hSw => ?_⟩) hHeld ?_
          · obtain ⟨s1, s2, s3, s4, s5, s6, s7⟩ := hSw
            go_simp
          try simp only [Act.put, List.setIfInBounds_toArray, List.set_cons_zero, List.set_cons_succ]
          refine wpAnyH_ready (rs := [16]) (by kernel_rfl) (by simp) ?_
          refine AllReadyH.cons (o := { dst := some 5, op := Op.alloc 29, type := 0, pos := "meter.go:109", after := #[], guard := none }) rfl (fun K hK => ?_) AllReadyH.nil
          go_simp
          refine hK.out _ _ (hS0.below (by repeat' first | with_reducible exact Below.refl _ _ | with_reducible refine Below.drew ?_ | with_reducible refine below_drewN ?_ _ | with_reducible refine Below.alloc ?_ (by simp) _ | with_reducible refine Below.setCell ?_ (by simp) _)) (fun hHeld => ?_)
          clear hK K
          try simp only [Act.put, List.setIfInBounds_toArray, List.set_cons_zero, List.set_cons_succ]
          refine wpAnyH_ready (rs := [17]) (by kernel_rfl) (by simp) ?_
          refine AllReadyH.cons (o := { dst := none, op := Op.store 29 (Operand.tmp 5) (Operand.tmp 36), type := 0, pos := "meter.go:109", after := #[{ on := 16, ground := Ground.data }, { on := 15, ground := Ground.data }, { on := 14, ground := Ground.chain }, { on := 0, ground := Ground.phase }, { on := 1, ground := Ground.phase }, { on := 2, ground := Ground.phase }, { on := 3, ground := Ground.phase }, { on := 4, ground := Ground.phase }, { on := 5, ground := Ground.phase }, { on := 6, ground := Ground.phase }, { on := 7, ground := Ground.phase }, { on := 8, ground := Ground.phase }, { on := 9, ground := Ground.phase }, { on := 10, ground := Ground.phase }, { on := 11, ground := Ground.phase }, { on := 12, ground := Ground.phase }, { on := 13, ground := Ground.phase }, { on := 14, ground := Ground.phase }, { on := 15, ground := Ground.phase }, { on := 16, ground := Ground.phase }], guard := none }) rfl (fun K hK => ?_) AllReadyH.nil
          go_simp
          refine hK.out _ _ (hS0.below (by repeat' first | with_reducible exact Below.refl _ _ | with_reducible refine Below.drew ?_ | with_reducible refine below_drewN ?_ _ | with_reducible refine Below.alloc ?_ (by simp) _ | with_reducible refine Below.setCell ?_ (by simp) _)) (fun hHeld => ?_)
          clear hK K
          try simp only [Act.put, List.setIfInBounds_toArray, List.set_cons_zero, List.set_cons_succ]
          refine wpAnyH_done (by kernel_rfl) ?_ _
          have ls : s0 ≤ 18446744073709551615 := by rw [← hs0]; exact fV_le _ _ _ _
          have cs : canB s0 = fop .add (canB asu) (canB bsu) := by rw [← hs0]; exact can_fV _ _ _ _
          clear hs0 hadd hHeld
          go_wp2_with fail
          go_meet
          exact ⟨rfl, s0, 2, ls, cs, rfl⟩
        refine AllReadyH.cons (o := { dst := some 5, op := Op.alloc 29, type := 0, pos := "meter.go:109", after := #[], guard := none }) rfl (fun K hK => ?_) AllReadyH.nil
        go_simp
        refine hK.out _ _ (hS0.below (by repeat' first | with_reducible exact Below.refl _ _ | with_reducible refine Below.drew ?_ | with_reducible refine below_drewN ?_ _ | with_reducible refine Below.alloc ?_ (by simp) _ | with_reducible refine Below.setCell ?_ (by simp) _)) (fun hHeld => ?_)
        clear hK K
        try simp only [Act.put, List.setIfInBounds_toArray, List.set_cons_zero, List.set_cons_succ]
        refine wpAnyH_ready (rs := [14]) (by kernel_rfl) (by simp) ?_
        refine AllReadyH.cons (o := { dst := some 35, op := Op.call { callee := Callee.value (Operand.func 40), args := #[Operand.tmp 32, Operand.tmp 34], argTypes := #[27, 27] }, type := 27, pos := "meter.go:109", after := #[{ on := 11, ground := Ground.data }, { on := 13, ground := Ground.data }, { on := 9, ground := Ground.chain }], guard := none }) rfl (fun K hK => ?_) AllReadyH.nil
        go_simp
        with_reducible refine (HHH.out _).mono ?_
        rintro e wx ⟨rfl, rfl⟩
        go_wp2_with fail
        refine hK.out _ _ (hS0.below (by repeat' first | with_reducible exact Below.refl _ _ | with_reducible refine Below.drew ?_ | with_reducible refine below_drewN ?_ _ | with_reducible refine Below.alloc ?_ (by simp) _ | with_reducible refine Below.setCell ?_ (by simp) _)) (fun hHeld => ?_)
        clear hK K
        try simp only [Act.put, List.setIfInBounds_toArray, List.set_cons_zero, List.set_cons_succ]
        refine wpAnyH_take (i := 15) (oi := { dst := some 36, op := Op.build 29 #[(2, Operand.tmp 25), (4, Operand.tmp 30), (5, Operand.tmp 35)], type := 29, pos := "meter.go:109", after := #[{ on := 4, ground := Ground.data }, { on := 9, ground := Ground.data }, { on := 14, ground := Ground.data }], guard := none }) (v := .agg #[.int .i64 0, .int .i64 0, .float .f64 s0, .float .f64 0, .float .f64 rl, .float .f64 rh, .float .f64 0, .float .f64 0]) rfl (by kernel_rfl) (by kernel_rfl) (by kernel_rfl) (fun _ _ _ h => h) (Or.inl ⟨by rfl, fun w hSw => ?_⟩) hHeld ?_
        · obtain ⟨s1, s2, s3, s4, s5, s6, s7⟩ := hSw
          go_simp
        try simp only [Act.put, List.setIfInBounds_toArray, List.set_cons_zero, List.set_cons_succ]
        refine wpAnyH_ready (rs := [17]) (by kernel_rfl) (by simp) ?_
        refine AllReadyH.cons (o := { dst := none, op := Op.store 29 (Operand.tmp 5) (Operand.tmp 36), type := 0, pos := "meter.go:109", after := #[{ on := 16, ground := Ground.data }, { on := 15, ground := Ground.data }, { on := 14, ground := Ground.chain }, { on := 0, ground := Ground.phase }, { on := 1, ground := Ground.phase }, { on := 2, ground := Ground.phase }, { on := 3, ground := Ground.phase }, { on := 4, ground := Ground.phase }, { on := 5, ground := Ground.phase }, { on := 6, ground := Ground.phase }, { on := 7, ground := Ground.phase }, { on := 8, ground := Ground.phase }, { on := 9, ground := Ground.phase }, { on := 10, ground := Ground.phase }, { on := 11, ground := Ground.phase }, { on := 12, ground := Ground.phase }, { on := 13, ground := Ground.phase }, { on := 14, ground := Ground.phase }, { on := 15, ground := Ground.phase }, { on := 16, ground := Ground.phase }], guard := none }) rfl (fun K hK => ?_) AllReadyH.nil
        go_simp
        refine hK.out _ _ (hS0.below (by repeat' first | with_reducible exact Below.refl _ _ | with_reducible refine Below.drew ?_ | with_reducible refine below_drewN ?_ _ | with_reducible refine Below.alloc ?_ (by simp) _ | with_reducible refine Below.setCell ?_ (by simp) _)) (fun hHeld => ?_)
        clear hK K
        try simp only [Act.put, List.setIfInBounds_toArray, List.set_cons_zero, List.set_cons_succ]
        refine wpAnyH_done (by kernel_rfl) ?_ _
        have ls : s0 ≤ 18446744073709551615 := by rw [← hs0]; exact fV_le _ _ _ _
        have cs : canB s0 = fop .add (canB asu) (canB bsu) := by rw [← hs0]; exact can_fV _ _ _ _
        clear hs0 hadd hHeld
        go_wp2_with fail
        go_meet
        exact ⟨rfl, s0, 2, ls, cs, rfl⟩
      refine AllReadyH.cons (o := { dst := some 5, op := Op.alloc 29, type := 0, pos := "meter.go:109", after := #[], guard := none }) rfl (fun K hK => ?_) AllReadyH.nil
      go_simp
      refine hK.out _ _ (hS0.below (by repeat' first | with_reducible exact Below.refl _ _ | with_reducible refine Below.drew ?_ | with_reducible refine below_drewN ?_ _ | with_reducible refine Below.alloc ?_ (by simp) _ | with_reducible refine Below.setCell ?_ (by simp) _)) (fun hHeld => ?_)
      clear hK K
      try simp only [Act.put, List.setIfInBounds_toArray, List.set_cons_zero, List.set_cons_succ]
      refine wpAnyH_ready (rs := [9]) (by kernel_rfl) (by simp) ?_
      refine AllReadyH.cons (o := { dst := some 30, op := Op.call { callee := Callee.value (Operand.func 39), args := #[Operand.tmp 27, Operand.tmp 29], argTypes := #[27, 27] }, type := 27, pos := "meter.go:109", after := #[{ on := 6, ground := Ground.data }, { on := 8, ground := Ground.data }], guard := none }) rfl (fun K hK => ?_) AllReadyH.nil
      go_simp
      with_reducible refine (HHL.out _).mono ?_
      rintro e wx ⟨rfl, rfl⟩
      go_wp2_with fail
      refine hK.out _ _ (hS0.below (by repeat' first | with_reducible exact Below.refl _ _ | with_reducible refine Below.drew ?_ | with_reducible refine below_drewN ?_ _ | with_reducible refine Below.alloc ?_ (by simp) _ | with_reducible refine Below.setCell ?_ (by simp) _)) (fun hHeld => ?_)
      clear hK K
      try simp only [Act.put, List.setIfInBounds_toArray, List.set_cons_zero, List.set_cons_succ]
      refine wpAnyH_ready (rs := [14]) (by kernel_rfl) (by simp) ?_
      refine AllReadyH.cons (o := { dst := some 35, op := Op.call { callee := Callee.value (Operand.func 40), args := #[Operand.tmp 32, Operand.tmp 34], argTypes := #[27, 27] }, type := 27, pos := "meter.go:109", after := #[{ on := 11, ground := Ground.data }, { on := 13, ground := Ground.data }, { on := 9, ground := Ground.chain }], guard := none }) rfl (fun K hK => ?_) AllReadyH.nil
      go_simp
      with_reducible refine (HHH.out _).mono ?_
      rintro e wx ⟨rfl, rfl⟩
      go_wp2_with fail
      refine hK.out _ _ (hS0.below (by repeat' first | with_reducible exact Below.refl _ _ | with_reducible refine Below.drew ?_ | with_reducible refine below_drewN ?_ _ | with_reducible refine Below.alloc ?_ (by simp) _ | with_reducible refine Below.setCell ?_ (by simp) _)) (fun hHeld => ?_)
      clear hK K
      try simp only [Act.put, List.setIfInBounds_toArray, List.set_cons_zero, List.set_cons_succ]
      refine wpAnyH_take (i := 15) (oi := { dst := some 36, op := Op.build 29 #[(2, Operand.tmp 25), (4, Operand.tmp 30), (5, Operand.tmp 35)], type := 29, pos := "meter.go:109", after := #[{ on := 4, ground := Ground.data }, { on := 9, ground := Ground.data }, { on := 14, ground := Ground.data }], guard := none }) (v := .agg #[.int .i64 0, .int .i64 0, .float .f64 s0, .float .f64 0, .float .f64 rl, .float .f64 rh, .float .f64 0, .float .f64 0]) rfl (by kernel_rfl) (by kernel_rfl) (by kernel_rfl) (fun _ _ _ h => h) (Or.inl ⟨by rfl, fun w hSw => ?_⟩) hHeld ?_
      · obtain ⟨s1, s2, s3, s4, s5, s6, s7⟩ := hSw
        go_simp
      try simp only [Act.put, List.setIfInBounds_toArray, List.set_cons_zero, List.set_cons_succ]
      refine wpAnyH_ready (rs := [17]) (by kernel_rfl) (by simp) ?_
      refine AllReadyH.cons (o := { dst := none, op := Op.store 29 (Operand.tmp 5) (Operand.tmp 36), type := 0, pos := "meter.go:109", after := #[{ on := 16, ground := Ground.data }, { on := 15, ground := Ground.data }, { on := 14, ground := Ground.chain }, { on := 0, ground := Ground.phase }, { on := 1, ground := Ground.phase }, { on := 2, ground := Ground.phase }, { on := 3, ground := Ground.phase }, { on := 4, ground := Ground.phase }, { on := 5, ground := Ground.phase }, { on := 6, ground := Ground.phase }, { on := 7, ground := Ground.phase }, { on := 8, ground := Ground.phase }, { on := 9, ground := Ground.phase }, { on := 10, ground := Ground.phase }, { on := 11, ground := Ground.phase }, { on := 12, ground := Ground.phase }, { on := 13, ground := Ground.phase }, { on := 14, ground := Ground.phase }, { on := 15, ground := Ground.phase }, { on := 16, ground := Ground.phase }], guard := none }) rfl (fun K hK => ?_) AllReadyH.nil
      go_simp
      refine hK.out _ _ (hS0.below (by repeat' first | with_reducible exact Below.refl _ _ | with_reducible refine Below.drew ?_ | with_reducible refine below_drewN ?_ _ | with_reducible refine Below.alloc ?_ (by simp) _ | with_reducible refine Below.setCell ?_ (by simp) _)) (fun hHeld => ?_)
      clear hK K
      try simp only [Act.put, List.setIfInBounds_toArray, List.set_cons_zero, List.set_cons_succ]
      refine wpAnyH_done (by kernel_rfl) ?_ _
      have ls : s0 ≤ 18446744073709551615 := by rw [← hs0]; exact fV_le _ _ _ _
      have cs : canB s0 = fop .add (canB asu) (canB bsu) := by rw [← hs0]; exact can_fV _ _ _ _
      clear hs0 hadd hHeld
      go_wp2_with fail
      go_meet
      exact ⟨rfl, s0, 2, ls, cs, rfl⟩
    refine AllReadyH.cons (o := { dst := some 30, op := Op.call { callee := Callee.value (Operand.func 39), args := #[Operand.tmp 27, Operand.tmp 29], argTypes := #[27, 27] }, type := 27, pos := "meter.go:109", after := #[{ on := 6, ground := Ground.data }, { on := 8, ground := Ground.data }], guard := none }) rfl (fun K hK => ?_) ?_
    · skip
      go_simp
      with_reducible refine (HHL.out _).mono ?_
      rintro e wx ⟨rfl, rfl⟩
      go_wp2_with fail
      refine hK.out _ _ (hS0.below (by repeat' first | with_reducible exact Below.refl _ _ | with_reducible refine Below.drew ?_ | with_reducible refine below_drewN ?_ _ | with_reducible refine Below.alloc ?_ (by simp) _ | with_reducible refine Below.setCell ?_ (by simp) _)) (fun hHeld => ?_)
      clear hK K
      try simp only [Act.put, List.setIfInBounds_toArray, List.set_cons_zero, List.set_cons_succ]
      refine wpAnyH_ready (rs := [4, 14, 16]) (by kernel_rfl) (by simp) ?_
      refine AllReadyH.cons (o := { dst := some 25, op := Op.binOp BinOp.add 27 (Operand.tmp 22) (Operand.tmp 24) 27, type := 27, pos := "meter.go:109", after := #[{ on := 1, ground := Ground.data }, { on := 3, ground := Ground.data }], guard := none }) rfl (fun K hK => ?_) ?_
      · skip
        go_simp
        refine hK.out _ _ (hS0.below (by repeat' first | with_reducible exact Below.refl _ _ | with_reducible refine Below.drew ?_ | with_reducible refine below_drewN ?_ _ | with_reducible refine Below.alloc ?_ (by simp) _ | with_reducible refine Below.setCell ?_ (by simp) _)) (fun hHeld => ?_)
        clear hK K
        try simp only [Act.put, List.setIfInBounds_toArray, List.set_cons_zero, List.set_cons_succ]
        generalize hs1 : fV .add asu bsu _ = s1
        refine wpAnyH_ready (rs := [14, 16]) (by kernel_rfl) (by simp) ?_
        refine AllReadyH.cons (o := { dst := some 35, op := Op.call { callee := Callee.value (Operand.func 40), args := #[Operand.tmp 32, Operand.tmp 34], argTypes := #[27, 27] }, type := 27, pos := "meter.go:109", after := #[{ on := 11, ground := Ground.data }, { on := 13, ground := Ground.data }, { on := 9, ground := Ground.chain }], guard := none }) rfl (fun K hK => ?_) ?_
        · skip
          go_simp
          with_reducible refine (HHH.out _).mono ?_
          rintro e wx ⟨rfl, rfl⟩
          go_wp2_with fail
          refine hK.out _ _ (hS0.below (by repeat' first | with_reducible exact Below.refl _ _ | with_reducible refine Below.drew ?_ | with_reducible refine below_drewN ?_ _ | with_reducible refine Below.alloc ?_ (by simp) _ | with_reducible refine Below.setCell ?_ (by simp) _)) (fun hHeld => ?_)
          clear hK K
          try simp only [Act.put, List.setIfInBounds_toArray, List.set_cons_zero, List.set_cons_succ]
          refine wpAnyH_take (i := 15) (oi := { dst := some 36, op := Op.build 29 #[(2, Operand.tmp 25), (4, Operand.tmp 30), (5, Operand.tmp 35)], type := 29, pos := "meter.go:109", after := #[{ on := 4, ground := Ground.data }, { on := 9, ground := Ground.data }, { on := 14, ground := Ground.data }], guard := none }) (v := .agg #[.int .i64 0, .int .i64 0, .float .f64 s1, .float .f64 0, .float .f64 rl, .float .f64 rh, .float .f64 0, .float .f64 0]) rfl (by kernel_rfl) (by kernel_rfl) (by kernel_rfl) (fun _ _ _ h => h) (Or.inl ⟨by rfl, fun w hSw => ?_⟩) hHeld ?_
          · obtain ⟨s1, s2, s3, s4, s5, s6, s7⟩ := hSw
            go_simp
          try simp only [Act.put, List.setIfInBounds_toArray, List.set_cons_zero, List.set_cons_succ]
          refine wpAnyH_ready (rs := [16]) (by kernel_rfl) (by simp) ?_
          refine AllReadyH.cons (o := { dst := some 5, op := Op.alloc 29, type := 0, pos := "meter.go:109", after := #[], guard := none }) rfl (fun K hK => ?_) AllReadyH.nil
          go_simp
          refine hK.out _ _ (hS0.below (by repeat' first | with_reducible exact Below.refl _ _ | with_reducible refine Below.drew ?_ | with_reducible refine below_drewN ?_ _ | with_reducible refine Below.alloc ?_ (by simp) _ | with_reducible refine Below.setCell ?_ (by simp) _)) (fun hHeld => ?_)
          clear hK K
          try simp only [Act.put, List.setIfInBounds_toArray, List.set_cons_zero, List.set_cons_succ]
          refine wpAnyH_ready (rs := [17]) (by kernel_rfl) (by simp) ?_
          refine AllReadyH.cons (o := { dst := none, op := Op.store 29 (Operand.tmp 5) (Operand.tmp 36), type := 0, pos := "meter.go:109", after := #[{ on := 16, ground := Ground.data }, { on := 15, ground := Ground.data }, { on := 14, ground := Ground.chain }, { on := 0, ground := Ground.phase }, { on := 1, ground := Ground.phase }, { on := 2, ground := Ground.phase }, { on := 3, ground := Ground.phase }, { on := 4, ground := Ground.phase }, { on := 5, ground := Ground.phase }, { on := 6, ground := Ground.phase }, { on := 7, ground := Ground.phase }, { on := 8, ground := Ground.phase }, { on := 9, ground := Ground.phase }, { on := 10, ground := Ground.phase }, { on := 11, ground := Ground.phase }, { on := 12, ground := Ground.phase }, { on := 13, ground := Ground.phase }, { on := 14, ground := Ground.phase }, { on := 15, ground := Ground.phase }, { on := 16, ground := Ground.phase }], guard := none }) rfl (fun K hK => ?_) AllReadyH.nil
          go_simp
          refine hK.out _ _ (hS0.below (by repeat' first | with_reducible exact Below.refl _ _ | with_reducible refine Below.drew ?_ | with_reducible refine below_drewN ?_ _ | with_reducible refine Below.alloc ?_ (by simp) _ | with_reducible refine Below.setCell ?_ (by simp) _)) (fun hHeld => ?_)
          clear hK K
          try simp only [Act.put, List.setIfInBounds_toArray, List.set_cons_zero, List.set_cons_succ]
          refine wpAnyH_done (by kernel_rfl) ?_ _
          have ls : s1 ≤ 18446744073709551615 := by rw [← hs1]; exact fV_le _ _ _ _
          have cs : canB s1 = fop .add (canB asu) (canB bsu) := by rw [← hs1]; exact can_fV _ _ _ _
          clear hs1 hadd hHeld
          go_wp2_with fail
          go_meet
          exact ⟨rfl, s1, 2, ls, cs, rfl⟩
        refine AllReadyH.cons (o := { dst := some 5, op := Op.alloc 29, type := 0, pos := "meter.go:109", after := #[], guard := none }) rfl (fun K hK => ?_) AllReadyH.nil
        go_simp
        refine hK.out _ _ (hS0.below (by repeat' first | with_reducible exact Below.refl _ _ | with_reducible refine Below.drew ?_ | with_reducible refine below_drewN ?_ _ | with_reducible refine Below.alloc ?_ (by simp) _ | with_reducible refine Below.setCell ?_ (by simp) _)) (fun hHeld => ?_)
        clear hK K
        try simp only [Act.put, List.setIfInBounds_toArray, List.set_cons_zero, List.set_cons_succ]
        refine wpAnyH_ready (rs := [14]) (by kernel_rfl) (by simp) ?_
        refine AllReadyH.cons (o := { dst := some 35, op := Op.call { callee := Callee.value (Operand.func 40), args := #[Operand.tmp 32, Operand.tmp 34], argTypes := #[27, 27] }, type := 27, pos := "meter.go:109", after := #[{ on := 11, ground := Ground.data }, { on := 13, ground := Ground.data }, { on := 9, ground := Ground.chain }], guard := none }) rfl (fun K hK => ?_) AllReadyH.nil
        go_simp
        with_reducible refine (HHH.out _).mono ?_
        rintro e wx ⟨rfl, rfl⟩
        go_wp2_with fail
        refine hK.out _ _ (hS0.below (by repeat' first | with_reducible exact Below.refl _ _ | with_reducible refine Below.drew ?_ | with_reducible refine below_drewN ?_ _ | with_reducible refine Below.alloc ?_ (by simp) _ | with_reducible refine Below.setCell ?_ (by simp) _)) (fun hHeld => ?_)
        clear hK K
        try simp only [Act.put, List.setIfInBounds_toArray, List.set_cons_zero, List.set_cons_succ]
        refine wpAnyH_take (i := 15) (oi := { dst := some 36, op := Op.build 29 #[(2, Operand.tmp 25), (4, Operand.tmp 30), (5, Operand.tmp 35)], type := 29, pos := "meter.go:109", after := #[{ on := 4, ground := Ground.data }, { on := 9, ground := Ground.data }, { on := 14, ground := Ground.data }], guard := none }) (v := .agg #[.int .i64 0, .int .i64 0, .float .f64 s1, .float .f64 0, .float .f64 rl, .float .f64 rh, .float .f64 0, .float .f64 0]) rfl (by kernel_rfl) (by kernel_rfl) (by kernel_rfl) (fun _ _ _ h => h) (Or.inl ⟨by rfl, fun w hSw => ?_⟩) hHeld ?_
        · obtain ⟨s1, s2, s3, s4, s5, s6, s7⟩ := hSw
          go_simp
        try simp only [Act.put, List.setIfInBounds_toArray, List.set_cons_zero, List.set_cons_succ]
        refine wpAnyH_ready (rs := [17]) (by kernel_rfl) (by simp) ?_
        refine AllReadyH.cons (o := { dst := none, op := Op.store 29 (Operand.tmp 5) (Operand.tmp 36), type := 0, pos := "meter.go:109", after := #[{ on := 16, ground := Ground.data }, { on := 15, ground := Ground.data }, { on := 14, ground := Ground.chain }, { on := 0, ground := Ground.phase }, { on := 1, ground := Ground.phase }, { on := 2, ground := Ground.phase }, { on := 3, ground := Ground.phase }, { on := 4, ground := Ground.phase }, { on := 5, ground := Ground.phase }, { on := 6, ground := Ground.phase }, { on := 7, ground := Ground.phase }, { on := 8, ground := Ground.phase }, { on := 9, ground := Ground.phase }, { on := 10, ground := Ground.phase }, { on := 11, ground := Ground.phase }, { on := 12, ground := Ground.phase }, { on := 13, ground := Ground.phase }, { on := 14, ground := Ground.phase }, { on := 15, ground := Ground.phase }, { on := 16, ground := Ground.phase }], guard := none }) rfl (fun K hK => ?_) AllReadyH.nil
        go_simp
        refine hK.out _ _ (hS0.below (by repeat' first | with_reducible exact Below.refl _ _ | with_reducible refine Below.drew ?_ | with_reducible refine below_drewN ?_ _ | with_reducible refine Below.alloc ?_ (by simp) _ | with_reducible refine Below.setCell ?_ (by simp) _)) (fun hHeld => ?_)
        clear hK K
        try simp only [Act.put, List.setIfInBounds_toArray, List.set_cons_zero, List.set_cons_succ]
        refine wpAnyH_done (by kernel_rfl) ?_ _
        have ls : s1 ≤ 18446744073709551615 := by rw [← hs1]; exact fV_le _ _ _ _
        have cs : canB s1 = fop .add (canB asu) (canB bsu) := by rw [← hs1]; exact can_fV _ _ _ _
        clear hs1 hadd hHeld
        go_wp2_with fail
        go_meet
        exact ⟨rfl, s1, 2, ls, cs, rfl⟩
      refine AllReadyH.cons (o := { dst := some 35, op := Op.call { callee := Callee.value (Operand.func 40), args := #[Operand.tmp 32, Operand.tmp 34], argTypes := #[27, 27] }, type := 27, pos := "meter.go:109", after := #[{ on := 11, ground := Ground.data }, { on := 13, ground := Ground.data }, { on := 9, ground := Ground.chain }], guard := none }) rfl (fun K hK => ?_) ?_
      · skip
        go_simp
        with_reducible refine (HHH.out _).mono ?_
        rintro e wx ⟨rfl, rfl⟩
        go_wp2_with fail
        refine hK.out _ _ (hS0.below (by repeat' first | with_reducible exact Below.refl _ _ | with_reducible refine Below.drew ?_ | with_reducible refine below_drewN ?_ _ | with_reducible refine Below.alloc ?_ (by simp) _ | with_reducible refine Below.setCell ?_ (by simp) _)) (fun hHeld => ?_)
        clear hK K
        try simp only [Act.put, List.setIfInBounds_toArray, List.set_cons_zero, List.set_cons_succ]
        refine wpAnyH_ready (rs := [4, 16]) (by kernel_rfl) (by simp) ?_
        refine AllReadyH.cons (o := { dst := some 25, op := Op.binOp BinOp.add 27 (Operand.tmp 22) (Operand.tmp 24) 27, type := 27, pos := "meter.go:109", after := #[{ on := 1, ground := Ground.data }, { on := 3, ground := Ground.data }], guard := none }) rfl (fun K hK => ?_) ?_
        · skip
          go_simp
          refine hK.out _ _ (hS0.below (by repeat' first | with_reducible exact Below.refl _ _ | with_reducible refine Below.drew ?_ | with_reducible refine below_drewN ?_ _ | with_reducible refine Below.alloc ?_ (by simp) _ | with_reducible refine Below.setCell ?_ (by simp) _)) (fun hHeld => ?_)
          clear hK K
          try simp only [Act.put, List.setIfInBounds_toArray, List.set_cons_zero, List.set_cons_succ]
          generalize hs2 : fV .add asu bsu _ = s2
          refine wpAnyH_take (i := 15) (oi := { dst := some 36, op := Op.build 29 #[(2, Operand.tmp 25), (4, Operand.tmp 30), (5, Operand.tmp 35)], type := 29, pos := "meter.go:109", after := #[{ on := 4, ground := Ground.data }, { on := 9, ground := Ground.data }, { on := 14, ground := Ground.data }], guard := none }) (v := .agg #[.int .i64 0, .int .i64 0, .float .f64 s2, .float .f64 0, .float .f64 rl, .float .f64 rh, .float .f64 0, .float .f64 0]) rfl (by kernel_rfl) (by kernel_rfl) (by kernel_rfl) (fun _ _ _ h => h) (Or.inl ⟨by rfl, fun w hSw => ?_⟩) hHeld ?_
          · obtain ⟨s1, s2, s3, s4, s5, s6, s7⟩ := hSw
            go_simp
          try simp only [Act.put, List.setIfInBounds_toArray, List.set_cons_zero, List.set_cons_succ]
          refine wpAnyH_ready (rs := [16]) (by kernel_rfl) (by simp) ?_
          refine AllReadyH.cons (o := { dst := some 5, op := Op.alloc 29, type := 0, pos := "meter.go:109", after := #[], guard := none }) rfl (fun K hK => ?_) AllReadyH.nil
          go_simp
          refine hK.out _ _ (hS0.below (by repeat' first | with_reducible exact Below.refl _ _ | with_reducible refine Below.drew ?_ | with_reducible refine below_drewN ?_ _ | with_reducible refine Below.alloc ?_ (by simp) _ | with_reducible refine Below.setCell ?_ (by simp) _)) (fun hHeld => ?_)
          clear hK K
          try simp only [Act.put, List.setIfInBounds_toArray, List.set_cons_zero, List.set_cons_succ]
          refine wpAnyH_ready (rs := [17]) (by kernel_rfl) (by simp) ?_
          refine AllReadyH.cons (o := { dst := none, op := Op.store 29 (Operand.tmp 5) (Operand.tmp 36), type := 0, pos := "meter.go:109", after := #[{ on := 16, ground := Ground.data }, { on := 15, ground := Ground.data }, { on := 14, ground := Ground.chain }, { on := 0, ground := Ground.phase }, { on := 1, ground := Ground.phase }, { on := 2, ground := Ground.phase }, { on := 3, ground := Ground.phase }, { on := 4, ground := Ground.phase }, { on := 5, ground := Ground.phase }, { on := 6, ground := Ground.phase }, { on := 7, ground := Ground.phase }, { on := 8, ground := Ground.phase }, { on := 9, ground := Ground.phase }, { on := 10, ground := Ground.phase }, { on := 11, ground := Ground.phase }, { on := 12, ground := Ground.phase }, { on := 13, ground := Ground.phase }, { on := 14, ground := Ground.phase }, { on := 15, ground := Ground.phase }, { on := 16, ground := Ground.phase }], guard := none }) rfl (fun K hK => ?_) AllReadyH.nil
          go_simp
          refine hK.out _ _ (hS0.below (by repeat' first | with_reducible exact Below.refl _ _ | with_reducible refine Below.drew ?_ | with_reducible refine below_drewN ?_ _ | with_reducible refine Below.alloc ?_ (by simp) _ | with_reducible refine Below.setCell ?_ (by simp) _)) (fun hHeld => ?_)
          clear hK K
          try simp only [Act.put, List.setIfInBounds_toArray, List.set_cons_zero, List.set_cons_succ]
          refine wpAnyH_done (by kernel_rfl) ?_ _
          have ls : s2 ≤ 18446744073709551615 := by rw [← hs2]; exact fV_le _ _ _ _
          have cs : canB s2 = fop .add (canB asu) (canB bsu) := by rw [← hs2]; exact can_fV _ _ _ _
          clear hs2 hadd hHeld
          go_wp2_with fail
          go_meet
          exact ⟨rfl, s2, 2, ls, cs, rfl⟩
        refine AllReadyH.cons (o := { dst := some 5, op := Op.alloc 29, type := 0, pos := "meter.go:109", after := #[], guard := none }) rfl (fun K hK => ?_) AllReadyH.nil
        go_simp
        refine hK.out _ _ (hS0.below (by repeat' first | with_reducible exact Below.refl _ _ | with_reducible refine Below.drew ?_ | with_reducible refine below_drewN ?_ _ | with_reducible refine Below.alloc ?_ (by simp) _ | with_reducible refine Below.setCell ?_ (by simp) _)) (fun hHeld => ?_)
        clear hK K
        try simp only [Act.put, List.setIfInBounds_toArray, List.set_cons_zero, List.set_cons_succ]
        refine wpAnyH_ready (rs := [4]) (by kernel_rfl) (by simp) ?_
        refine AllReadyH.cons (o := { dst := some 25, op := Op.binOp BinOp.add 27 (Operand.tmp 22) (Operand.tmp 24) 27, type := 27, pos := "meter.go:109", after := #[{ on := 1, ground := Ground.data }, { on := 3, ground := Ground.data }], guard := none }) rfl (fun K hK => ?_) AllReadyH.nil
        go_simp
        refine hK.out _ _ (hS0.below (by repeat' first | with_reducible exact Below.refl _ _ | with_reducible refine Below.drew ?_ | with_reducible refine below_drewN ?_ _ | with_reducible refine Below.alloc ?_ (by simp) _ | with_reducible refine Below.setCell ?_ (by simp) _)) (fun hHeld => ?_)
        clear hK K
        try simp only [Act.put, List.setIfInBounds_toArray, List.set_cons_zero, List.set_cons_succ]
        generalize hs3 : fV .add asu bsu _ = s3
        refine wpAnyH_take (i := 15) (oi := { dst := some 36, op := Op.build 29 #[(2, Operand.tmp 25), (4, Operand.tmp 30), (5, Operand.tmp 35)], type := 29, pos := "meter.go:109", after := #[{ on := 4, ground := Ground.data }, { on := 9, ground := Ground.data }, { on := 14, ground := Ground.data }], guard := none }) (v := .agg #[.int .i64 0, .int .i64 0, .float .f64 s3, .float .f64 0, .float .f64 rl, .float .f64 rh, .float .f64 0, .float .f64 0]) rfl (by kernel_rfl) (by kernel_rfl) (by kernel_rfl) (fun _ _ _ h => h) (Or.inl ⟨by rfl, fun w hSw => ?_⟩) hHeld ?_
        · obtain ⟨s1, s2, s3, s4, s5, s6, s7⟩ := hSw
          go_simp
        try simp only [Act.put, List.setIfInBounds_toArray, List.set_cons_zero, List.set_cons_succ]
        refine wpAnyH_ready (rs := [17]) (by kernel_rfl) (by simp) ?_
        refine AllReadyH.cons (o := { dst := none, op := Op.store 29 (Operand.tmp 5) (Operand.tmp 36), type := 0, pos := "meter.go:109", after := #[{ on := 16, ground := Ground.data }, { on := 15, ground := Ground.data }, { on := 14, ground := Ground.chain }, { on := 0, ground := Ground.phase }, { on := 1, ground := Ground.phase }, { on := 2, ground := Ground.phase }, { on := 3, ground := Ground.phase }, { on := 4, ground := Ground.phase }, { on := 5, ground := Ground.phase }, { on := 6, ground := Ground.phase }, { on := 7, ground := Ground.phase }, { on := 8, ground := Ground.phase }, { on := 9, ground := Ground.phase }, { on := 10, ground := Ground.phase }, { on := 11, ground := Ground.phase }, { on := 12, ground := Ground.phase }, { on := 13, ground := Ground.phase }, { on := 14, ground := Ground.phase }, { on := 15, ground := Ground.phase }, { on := 16, ground := Ground.phase }], guard := none }) rfl (fun K hK => ?_) AllReadyH.nil
        go_simp
        refine hK.out _ _ (hS0.below (by repeat' first | with_reducible exact Below.refl _ _ | with_reducible refine Below.drew ?_ | with_reducible refine below_drewN ?_ _ | with_reducible refine Below.alloc ?_ (by simp) _ | with_reducible refine Below.setCell ?_ (by simp) _)) (fun hHeld => ?_)
        clear hK K
        try simp only [Act.put, List.setIfInBounds_toArray, List.set_cons_zero, List.set_cons_succ]
        refine wpAnyH_done (by kernel_rfl) ?_ _
        have ls : s3 ≤ 18446744073709551615 := by rw [← hs3]; exact fV_le _ _ _ _
        have cs : canB s3 = fop .add (canB asu) (canB bsu) := by rw [← hs3]; exact can_fV _ _ _ _
        clear hs3 hadd hHeld
        go_wp2_with fail
        go_meet
        exact ⟨rfl, s3, 2, ls, cs, rfl⟩
      refine AllReadyH.cons (o := { dst := some 5, op := Op.alloc 29, type := 0, pos := "meter.go:109", after := #[], guard := none }) rfl (fun K hK => ?_) AllReadyH.nil
      go_simp
      refine hK.out _ _ (hS0.below (by repeat' first | with_reducible exact Below.refl _ _ | with_reducible refine Below.drew ?_ | with_reducible refine below_drewN ?_ _ | with_reducible refine Below.alloc ?_ (by simp) _ | with_reducible refine Below.setCell ?_ (by simp) _)) (fun hHeld => ?_)
      clear hK K
      try simp only [Act.put, List.setIfInBounds_toArray, List.set_cons_zero, List.set_cons_succ]
      refine wpAnyH_ready (rs := [4, 14]) (by kernel_rfl) (by simp) ?_
      refine AllReadyH.cons (o := { dst := some 25, op := Op.binOp BinOp.add 27 (Operand.tmp 22) (Operand.tmp 24) 27, type := 27, pos := "meter.go:109", after := #[{ on := 1, ground := Ground.data }, { on := 3, ground := Ground.data }], guard := none }) rfl (fun K hK => ?_) ?_
      · skip
        go_simp
        refine hK.out _ _ (hS0.below (by repeat' first | with_reducible exact Below.refl _ _ | with_reducible refine Below.drew ?_ | with_reducible refine below_drewN ?_ _ | with_reducible refine Below.alloc ?_ (by simp) _ | with_reducible refine Below.setCell ?_ (by simp) _)) (fun hHeld => ?_)
        clear hK K
        try simp only [Act.put, List.setIfInBounds_toArray, List.set_cons_zero, List.set_cons_succ]
        generalize hs2 : fV .add asu bsu _ = s2
        refine wpAnyH_ready (rs := [14]) (by kernel_rfl) (by simp) ?_
        refine AllReadyH.cons (o := { dst := some 35, op := Op.call { callee := Callee.value (Operand.func 40), args := #[Operand.tmp 32, Operand.tmp 34], argTypes := #[27, 27] }, type := 27, pos := "meter.go:109", after := #[{ on := 11, ground := Ground.data }, { on := 13, ground := Ground.data }, { on := 9, ground := Ground.chain }], guard := none }) rfl (fun K hK => ?_) AllReadyH.nil
        go_simp
        with_reducible refine (HHH.out _).mono ?_
        rintro e wx ⟨rfl, rfl⟩
        go_wp2_with fail
        refine hK.out _ _ (hS0.below (by repeat' first | with_reducible exact Below.refl _ _ | with_reducible refine Below.drew ?_ | with_reducible refine below_drewN ?_ _ | with_reducible refine Below.alloc ?_ (by simp) _ | with_reducible refine Below.setCell ?_ (by simp) _)) (fun hHeld => ?_)
        clear hK K
        try simp only [Act.put, List.setIfInBounds_toArray, List.set_cons_zero, List.set_cons_succ]
        refine wpAnyH_take (i := 15) (oi := { dst := some 36, op := Op.build 29 #[(2, Operand.tmp 25), (4, Operand.tmp 30), (5, Operand.tmp 35)], type := 29, pos := "meter.go:109", after := #[{ on := 4, ground := Ground.data }, { on := 9, ground := Ground.data }, { on := 14, ground := Ground.data }], guard := none }) (v := .agg #[.int .i64 0, .int .i64 0, .float .f64 s2, .float .f64 0, .float .f64 rl, .float .f64 rh, .float .f64 0, .float .f64 0]) rfl (by kernel_rfl) (by kernel_rfl) (by kernel_rfl) (fun _ _ _ h => h) (Or.inl ⟨by rfl, fun w hSw => ?_⟩) hHeld ?_
        · obtain ⟨s1, s2, s3, s4, s5, s6, s7⟩ := hSw
          go_simp
        try simp only [Act.put, List.setIfInBounds_toArray, List.set_cons_zero, List.set_cons_succ]
        refine wpAnyH_ready (rs := [17]) (by kernel_rfl) (by simp) ?_
        refine AllReadyH.cons (o := { dst := none, op := Op.store 29 (Operand.tmp 5) (Operand.tmp 36), type := 0, pos := "meter.go:109", after := #[{ on := 16, ground := Ground.data }, { on := 15, ground := Ground.data }, { on := 14, ground := Ground.chain }, { on := 0, ground := Ground.phase }, { on := 1, ground := Ground.phase }, { on := 2, ground := Ground.phase }, { on := 3, ground := Ground.phase }, { on := 4, ground := Ground.phase }, { on := 5, ground := Ground.phase }, { on := 6, ground := Ground.phase }, { on := 7, ground := Ground.phase }, { on := 8, ground := Ground.phase }, { on := 9, ground := Ground.phase }, { on := 10, ground := Ground.phase }, { on := 11, ground := Ground.phase }, { on := 12, ground := Ground.phase }, { on := 13, ground := Ground.phase }, { on := 14, ground := Ground.phase }, { on := 15, ground := Ground.phase }, { on := 16, ground := Ground.phase }], guard := none }) rfl (fun K hK => ?_) AllReadyH.nil
        go_simp
        refine hK.out _ _ (hS0.below (by repeat' first | with_reducible exact Below.refl _ _ | with_reducible refine Below.drew ?_ | with_reducible refine below_drewN ?_ _ | with_reducible refine Below.alloc ?_ (by simp) _ | with_reducible refine Below.setCell ?_ (by simp) _)) (fun hHeld => ?_)
        clear hK K
        try simp only [Act.put, List.setIfInBounds_toArray, List.set_cons_zero, List.set_cons_succ]
        refine wpAnyH_done (by kernel_rfl) ?_ _
        have ls : s2 ≤ 18446744073709551615 := by rw [← hs2]; exact fV_le _ _ _ _
        have cs : canB s2 = fop .add (canB asu) (canB bsu) := by rw [← hs2]; exact can_fV _ _ _ _
        clear hs2 hadd hHeld
        go_wp2_with fail
        go_meet
        exact ⟨rfl, s2, 2, ls, cs, rfl⟩
      refine AllReadyH.cons (o := { dst := some 35, op := Op.call { callee := Callee.value (Operand.func 40), args := #[Operand.tmp 32, Operand.tmp 34], argTypes := #[27, 27] }, type := 27, pos := "meter.go:109", after := #[{ on := 11, ground := Ground.data }, { on := 13, ground := Ground.data }, { on := 9, ground := Ground.chain }], guard := none }) rfl (fun K hK => ?_) AllReadyH.nil
      go_simp
      with_reducible refine (HHH.out _).mono ?_
      rintro e wx ⟨rfl, rfl⟩
      go_wp2_with fail
      refine hK.out _ _ (hS0.below (by repeat' first | with_reducible exact Below.refl _ _ | with_reducible refine Below.drew ?_ | with_reducible refine below_drewN ?_ _ | with_reducible refine Below.alloc ?_ (by simp) _ | with_reducible refine Below.setCell ?_ (by simp) _)) (fun hHeld => ?_)
      clear hK K
      try simp only [Act.put, List.setIfInBounds_toArray, List.set_cons_zero, List.set_cons_succ]
      refine wpAnyH_ready (rs := [4]) (by kernel_rfl) (by simp) ?_
      refine AllReadyH.cons (o := { dst := some 25, op := Op.binOp BinOp.add 27 (Operand.tmp 22) (Operand.tmp 24) 27, type := 27, pos := "meter.go:109", after := #[{ on := 1, ground := Ground.data }, { on := 3, ground := Ground.data }], guard := none }) rfl (fun K hK => ?_) AllReadyH.nil
      go_simp
      refine hK.out _ _ (hS0.below (by repeat' first | with_reducible exact Below.refl _ _ | with_reducible refine Below.drew ?_ | with_reducible refine below_drewN ?_ _ | with_reducible refine Below.alloc ?_ (by simp) _ | with_reducible refine Below.setCell ?_ (by simp) _)) (fun hHeld => ?_)
      clear hK K
      try simp only [Act.put, List.setIfInBounds_toArray, List.set_cons_zero, List.set_cons_succ]
      generalize hs3 : fV .add asu bsu _ = s3
      refine wpAnyH_take (i := 15) (oi := { dst := some 36, op := Op.build 29 #[(2, Operand.tmp 25), (4, Operand.tmp 30), (5, Operand.tmp 35)], type := 29, pos := "meter.go:109", after := #[{ on := 4, ground := Ground.data }, { on := 9, ground := Ground.data }, { on := 14, ground := Ground.data }], guard := none }) (v := .agg #[.int .i64 0, .int .i64 0, .float .f64 s3, .float .f64 0, .float .f64 rl, .float .f64 rh, .float .f64 0, .float .f64 0]) rfl (by kernel_rfl) (by kernel_rfl) (by kernel_rfl) (fun _ _ _ h => h) (Or.inl ⟨by rfl, fun w hSw => ?_⟩) hHeld ?_
      · obtain ⟨s1, s2, s3, s4, s5, s6, s7⟩ := hSw
        go_simp
      try simp only [Act.put, List.setIfInBounds_toArray, List.set_cons_zero, List.set_cons_succ]
      refine wpAnyH_ready (rs := [17]) (by kernel_rfl) (by simp) ?_
      refine AllReadyH.cons (o := { dst := none, op := Op.store 29 (Operand.tmp 5) (Operand.tmp 36), type := 0, pos := "meter.go:109", after := #[{ on := 16, ground := Ground.data }, { on := 15, ground := Ground.data }, { on := 14, ground := Ground.chain }, { on := 0, ground := Ground.phase }, { on := 1, ground := Ground.phase }, { on := 2, ground := Ground.phase }, { on := 3, ground := Ground.phase }, { on := 4, ground := Ground.phase }, { on := 5, ground := Ground.phase }, { on := 6, ground := Ground.phase }, { on := 7, ground := Ground.phase }, { on := 8, ground := Ground.phase }, { on := 9, ground := Ground.phase }, { on := 10, ground := Ground.phase }, { on := 11, ground := Ground.phase }, { on := 12, ground := Ground.phase }, { on := 13, ground := Ground.phase }, { on := 14, ground := Ground.phase }, { on := 15, ground := Ground.phase }, { on := 16, ground := Ground.phase }], guard := none }) rfl (fun K hK => ?_) AllReadyH.nil
      go_simp
      refine hK.out _ _ (hS0.below (by repeat' first | with_reducible exact Below.refl _ _ | with_reducible refine Below.drew ?_ | with_reducible refine below_drewN ?_ _ | with_reducible refine Below.alloc ?_ (by simp) _ | with_reducible refine Below.setCell ?_ (by simp) _)) (fun hHeld => ?_)
      clear hK K
      try simp only [Act.put, List.setIfInBounds_toArray, List.set_cons_zero, List.set_cons_succ]
      refine wpAnyH_done (by kernel_rfl) ?_ _
      have ls : s3 ≤ 18446744073709551615 := by rw [← hs3]; exact fV_le _ _ _ _
      have cs : canB s3 = fop .add (canB asu) (canB bsu) := by rw [← hs3]; exact can_fV _ _ _ _
      clear hs3 hadd hHeld
      go_wp2_with fail
      go_meet
      exact ⟨rfl, s3, 2, ls, cs, rfl⟩
    refine AllReadyH.cons (o := { dst := some 5, op := Op.alloc 29, type := 0, pos := "meter.go:109", after := #[], guard := none }) rfl (fun K hK => ?_) AllReadyH.nil
    go_simp
    refine hK.out _ _ (hS0.below (by repeat' first | with_reducible exact Below.refl _ _ | with_reducible refine Below.drew ?_ | with_reducible refine below_drewN ?_ _ | with_reducible refine Below.alloc ?_ (by simp) _ | with_reducible refine Below.setCell ?_ (by simp) _)) (fun hHeld => ?_)
    clear hK K
    try simp only [Act.put, List.setIfInBounds_toArray, List.set_cons_zero, List.set_cons_succ]
    refine wpAnyH_ready (rs := [4, 9]) (by kernel_rfl) (by simp) ?_
    refine AllReadyH.cons (o := { dst := some 25, op := Op.binOp BinOp.add 27 (Operand.tmp 22) (Operand.tmp 24) 27, type := 27, pos := "meter.go:109", after := #[{ on := 1, ground := Ground.data }, { on := 3, ground := Ground.data }], guard := none }) rfl (fun K hK => ?_) ?_
    · skip
      go_simp
      refine hK.out _ _ (hS0.below (by repeat' first | with_reducible exact Below.refl _ _ | with_reducible refine Below.drew ?_ | with_reducible refine below_drewN ?_ _ | with_reducible refine Below.alloc ?_ (by simp) _ | with_reducible refine Below.setCell ?_ (by simp) _)) (fun hHeld => ?_)
      clear hK K
      try simp only [Act.put, List.setIfInBounds_toArray, List.set_cons_zero, List.set_cons_succ]
      generalize hs1 : fV .add asu bsu _ = s1
      refine wpAnyH_ready (rs := [9]) (by kernel_rfl) (by simp) ?_
      refine AllReadyH.cons (o := { dst := some 30, op := Op.call { callee := Callee.value (Operand.func 39), args := #[Operand.tmp 27, Operand.tmp 29], argTypes := #[27, 27] }, type := 27, pos := "meter.go:109", after := #[{ on := 6, ground := Ground.data }, { on := 8, ground := Ground.data }], guard := none }) rfl (fun K hK => ?_) AllReadyH.nil
      go_simp
      with_reducible refine (HHL.out _).mono ?_
      rintro e wx ⟨rfl, rfl⟩
      go_wp2_with fail
      refine hK.out _ _ (hS0.below (by repeat' first | with_reducible exact Below.refl _ _ | with_reducible refine Below.drew ?_ | with_reducible refine below_drewN ?_ _ | with_reducible refine Below.alloc ?_ (by simp) _ | with_reducible refine Below.setCell ?_ (by simp) _)) (fun hHeld => ?_)
      clear hK K
      try simp only [Act.put, List.setIfInBounds_toArray, List.set_cons_zero, List.set_cons_succ]
      refine wpAnyH_ready (rs := [14]) (by kernel_rfl) (by simp) ?_
      refine AllReadyH.cons (o := { dst := some 35, op := Op.call { callee := Callee.value (Operand.func 40), args := #[Operand.tmp 32, Operand.tmp 34], argTypes := #[27, 27] }, type := 27, pos := "meter.go:109", after := #[{ on := 11, ground := Ground.data }, { on := 13, ground := Ground.data }, { on := 9, ground := Ground.chain }], guard := none }) rfl (fun K hK => ?_) AllReadyH.nil
      go_simp
      with_reducible refine (HHH.out _).mono ?_
      rintro e wx ⟨rfl, rfl⟩
      go_wp2_with fail
      refine hK.out _ _ (hS0.below (by repeat' first | with_reducible exact Below.refl _ _ | with_reducible refine Below.drew ?_ | with_reducible refine below_drewN ?_ _ | with_reducible refine Below.alloc ?_ (by simp) _ | with_reducible refine Below.setCell ?_ (by simp) _)) (fun hHeld => ?_)
      clear hK K
      try simp only [Act.put, List.setIfInBounds_toArray, List.set_cons_zero, List.set_cons_succ]
      refine wpAnyH_take (i := 15) (oi := { dst := some 36, op := Op.build 29 #[(2, Operand.tmp 25), (4, Operand.tmp 30), (5, Operand.tmp 35)], type := 29, pos := "meter.go:109", after := #[{ on := 4, ground := Ground.data }, { on := 9, ground := Ground.data }, { on := 14, ground := Ground.data }], guard := none }) (v := .agg #[.int .i64 0, .int .i64 0, .float .f64 s1, .float .f64 0, .float .f64 rl, .float .f64 rh, .float .f64 0, .float .f64 0]) rfl (by kernel_rfl) (by kernel_rfl) (by kernel_rfl) (fun _ _ _ h => h) (Or.inl ⟨by rfl, fun w hSw => ?_⟩) hHeld ?_
      · obtain ⟨s1, s2, s3, s4, s5, s6, s7⟩ := hSw
        go_simp
      try simp only [Act.put, List.setIfInBounds_toArray, List.set_cons_zero, List.set_cons_succ]
      refine wpAnyH_ready (rs := [17]) (by kernel_rfl) (by simp) ?_
      refine AllReadyH.cons (o := { dst := none, op := Op.store 29 (Operand.tmp 5) (Operand.tmp 36), type := 0, pos := "meter.go:109", after := #[{ on := 16, ground := Ground.data }, { on := 15, ground := Ground.data }, { on := 14, ground := Ground.chain }, { on := 0, ground := Ground.phase }, { on := 1, ground := Ground.phase }, { on := 2, ground := Ground.phase }, { on := 3, ground := Ground.phase }, { on := 4, ground := Ground.phase }, { on := 5, ground := Ground.phase }, { on := 6, ground := Ground.phase }, { on := 7, ground := Ground.phase }, { on := 8, ground := Ground.phase }, { on := 9, ground := Ground.phase }, { on := 10, ground := Ground.phase }, { on := 11, ground := Ground.phase }, { on := 12, ground := Ground.phase }, { on := 13, ground := Ground.phase }, { on := 14, ground := Ground.phase }, { on := 15, ground := Ground.phase }, { on := 16, ground := Ground.phase }], guard := none }) rfl (fun K hK => ?_) AllReadyH.nil
      go_simp
      refine hK.out _ _ (hS0.below (by repeat' first | with_reducible exact Below.refl _ _ | with_reducible refine Below.drew ?_ | with_reducible refine below_drewN ?_ _ | with_reducible refine Below.alloc ?_ (by simp) _ | with_reducible refine Below.setCell ?_ (by simp) _)) (fun hHeld => ?_)
      clear hK K
      try simp only [Act.put, List.setIfInBounds_toArray, List.set_cons_zero, List.set_cons_succ]
      refine wpAnyH_done (by kernel_rfl) ?_ _
      have ls : s1 ≤ 18446744073709551615 := by rw [← hs1]; exact fV_le _ _ _ _
      have cs : canB s1 = fop .add (canB asu) (canB bsu) := by rw [← hs1]; exact can_fV _ _ _ _
      clear hs1 hadd hHeld
      go_wp2_with fail
      go_meet
      exact ⟨rfl, s1, 2, ls, cs, rfl⟩
    refine AllReadyH.cons (o := { dst := some 30, op := Op.call { callee := Callee.value (Operand.func 39), args := #[Operand.tmp 27, Operand.tmp 29], argTypes := #[27, 27] }, type := 27, pos := "meter.go:109", after := #[{ on := 6, ground := Ground.data }, { on := 8, ground := Ground.data }], guard := none }) rfl (fun K hK => ?_) AllReadyH.nil
    go_simp
    with_reducible refine (HHL.out _).mono ?_
    rintro e wx ⟨rfl, rfl⟩
    go_wp2_with fail
    refine hK.out _ _ (hS0.below (by repeat' first | with_reducible exact Below.refl _ _ | with_reducible refine Below.drew ?_ | with_reducible refine below_drewN ?_ _ | with_reducible refine Below.alloc ?_ (by simp) _ | with_reducible refine Below.setCell ?_ (by simp) _)) (fun hHeld => ?_)
    clear hK K
    try simp only [Act.put, List.setIfInBounds_toArray, List.set_cons_zero, List.set_cons_succ]
    refine wpAnyH_ready (rs := [4, 14]) (by kernel_rfl) (by simp) ?_
    refine AllReadyH.cons (o := { dst := some 25, op := Op.binOp BinOp.add 27 (Operand.tmp 22) (Operand.tmp 24) 27, type := 27, pos := "meter.go:109", after := #[{ on := 1, ground := Ground.data }, { on := 3, ground := Ground.data }], guard := none }) rfl (fun K hK => ?_) ?_
    · skip
      go_simp
      refine hK.out _ _ (hS0.below (by repeat' first | with_reducible exact Below.refl _ _ | with_reducible refine Below.drew ?_ | with_reducible refine below_drewN ?_ _ | with_reducible refine Below.alloc ?_ (by simp) _ | with_reducible refine Below.setCell ?_ (by simp) _)) (fun hHeld => ?_)
      clear hK K
      try simp only [Act.put, List.setIfInBounds_toArray, List.set_cons_zero, List.set_cons_succ]
      generalize hs2 : fV .add asu bsu _ = s2
      refine wpAnyH_ready (rs := [14]) (by kernel_rfl) (by simp) ?_
      refine AllReadyH.cons (o := { dst := some 35, op := Op.call { callee := Callee.value (Operand.func 40), args := #[Operand.tmp 32, Operand.tmp 34], argTypes := #[27, 27] }, type := 27, pos := "meter.go:109", after := #[{ on := 11, ground := Ground.data }, { on := 13, ground := Ground.data }, { on := 9, ground := Ground.chain }], guard := none }) rfl (fun K hK => ?_) AllReadyH.nil
      go_simp
      with_reducible refine (HHH.out _).mono ?_
      rintro e wx ⟨rfl, rfl⟩
      go_wp2_with fail
      refine hK.out _ _ (hS0.below (by repeat' first | with_reducible exact Below.refl _ _ | with_reducible refine Below.drew ?_ | with_reducible refine below_drewN ?_ _ | with_reducible refine Below.alloc ?_ (by simp) _ | with_reducible refine Below.setCell ?_ (by simp) _)) (fun hHeld => ?_)
      clear hK K
      try simp only [Act.put, List.setIfInBounds_toArray, List.set_cons_zero, List.set_cons_succ]
      refine wpAnyH_take (i := 15) (oi := { dst := some 36, op := Op.build 29 #[(2, Operand.tmp 25), (4, Operand.tmp 30), (5, Operand.tmp 35)], type := 29, pos := "meter.go:109", after := #[{ on := 4, ground := Ground.data }, { on := 9, ground := Ground.data }, { on := 14, ground := Ground.data }], guard := none }) (v := .agg #[.int .i64 0, .int .i64 0, .float .f64 s2, .float .f64 0, .float .f64 rl, .float .f64 rh, .float .f64 0, .float .f64 0]) rfl (by kernel_rfl) (by kernel_rfl) (by kernel_rfl) (fun _ _ _ h => h) (Or.inl ⟨by rfl, fun w hSw => ?_⟩) hHeld ?_
      · obtain ⟨s1, s2, s3, s4, s5, s6, s7⟩ := hSw
        go_simp
      try simp only [Act.put, List.setIfInBounds_toArray, List.set_cons_zero, List.set_cons_succ]
      refine wpAnyH_ready (rs := [17]) (by kernel_rfl) (by simp) ?_
      refine AllReadyH.cons (o := { dst := none, op := Op.store 29 (Operand.tmp 5) (Operand.tmp 36), type := 0, pos := "meter.go:109", after := #[{ on := 16, ground := Ground.data }, { on := 15, ground := Ground.data }, { on := 14, ground := Ground.chain }, { on := 0, ground := Ground.phase }, { on := 1, ground := Ground.phase }, { on := 2, ground := Ground.phase }, { on := 3, ground := Ground.phase }, { on := 4, ground := Ground.phase }, { on := 5, ground := Ground.phase }, { on := 6, ground := Ground.phase }, { on := 7, ground := Ground.phase }, { on := 8, ground := Ground.phase }, { on := 9, ground := Ground.phase }, { on := 10, ground := Ground.phase }, { on := 11, ground := Ground.phase }, { on := 12, ground := Ground.phase }, { on := 13, ground := Ground.phase }, { on := 14, ground := Ground.phase }, { on := 15, ground := Ground.phase }, { on := 16, ground := Ground.phase }], guard := none }) rfl (fun K hK => ?_) AllReadyH.nil
      go_simp
      refine hK.out _ _ (hS0.below (by repeat' first | with_reducible exact Below.refl _ _ | with_reducible refine Below.drew ?_ | with_reducible refine below_drewN ?_ _ | with_reducible refine Below.alloc ?_ (by simp) _ | with_reducible refine Below.setCell ?_ (by simp) _)) (fun hHeld => ?_)
      clear hK K
      try simp only [Act.put, List.setIfInBounds_toArray, List.set_cons_zero, List.set_cons_succ]
      refine wpAnyH_done (by kernel_rfl) ?_ _
      have ls : s2 ≤ 18446744073709551615 := by rw [← hs2]; exact fV_le _ _ _ _
      have cs : canB s2 = fop .add (canB asu) (canB bsu) := by rw [← hs2]; exact can_fV _ _ _ _
      clear hs2 hadd hHeld
      go_wp2_with fail
      go_meet
      exact ⟨rfl, s2, 2, ls, cs, rfl⟩
    refine AllReadyH.cons (o := { dst := some 35, op := Op.call { callee := Callee.value (Operand.func 40), args := #[Operand.tmp 32, Operand.tmp 34], argTypes := #[27, 27] }, type := 27, pos := "meter.go:109", after := #[{ on := 11, ground := Ground.data }, { on := 13, ground := Ground.data }, { on := 9, ground := Ground.chain }], guard := none }) rfl (fun K hK => ?_) AllReadyH.nil
    go_simp
    with_reducible refine (HHH.out _).mono ?_
    rintro e wx ⟨rfl, rfl⟩
    go_wp2_with fail
    refine hK.out _ _ (hS0.below (by repeat' first | with_reducible exact Below.refl _ _ | with_reducible refine Below.drew ?_ | with_reducible refine below_drewN ?_ _ | with_reducible refine Below.alloc ?_ (by simp) _ | with_reducible refine Below.setCell ?_ (by simp) _)) (fun hHeld => ?_)
    clear hK K
    try simp only [Act.put, List.setIfInBounds_toArray, List.set_cons_zero, List.set_cons_succ]
    refine wpAnyH_ready (rs := [4]) (by kernel_rfl) (by simp) ?_
    refine AllReadyH.cons (o := { dst := some 25, op := Op.binOp BinOp.add 27 (Operand.tmp 22) (Operand.tmp 24) 27, type := 27, pos := "meter.go:109", after := #[{ on := 1, ground := Ground.data }, { on := 3, ground := Ground.data }], guard := none }) rfl (fun K hK => ?_) AllReadyH.nil
    go_simp
    refine hK.out _ _ (hS0.below (by repeat' first | with_reducible exact Below.refl _ _ | with_reducible refine Below.drew ?_ | with_reducible refine below_drewN ?_ _ | with_reducible refine Below.alloc ?_ (by simp) _ | with_reducible refine Below.setCell ?_ (by simp) _)) (fun hHeld => ?_)
    clear hK K
    try simp only [Act.put, List.setIfInBounds_toArray, List.set_cons_zero, List.set_cons_succ]
    generalize hs3 : fV .add asu bsu _ = s3
    refine wpAnyH_take (i := 15) (oi := { dst := some 36, op := Op.build 29 #[(2, Operand.tmp 25), (4, Operand.tmp 30), (5, Operand.tmp 35)], type := 29, pos := "meter.go:109", after := #[{ on := 4, ground := Ground.data }, { on := 9, ground := Ground.data }, { on := 14, ground := Ground.data }], guard := none }) (v := .agg #[.int .i64 0, .int .i64 0, .float .f64 s3, .float .f64 0, .float .f64 rl, .float .f64 rh, .float .f64 0, .float .f64 0]) rfl (by kernel_rfl) (by kernel_rfl) (by kernel_rfl) (fun _ _ _ h => h) (Or.inl ⟨by rfl, fun w hSw => ?_⟩) hHeld ?_
    · obtain ⟨s1, s2, s3, s4, s5, s6, s7⟩ := hSw
      go_simp
    try simp only [Act.put, List.setIfInBounds_toArray, List.set_cons_zero, List.set_cons_succ]
    refine wpAnyH_ready (rs := [17]) (by kernel_rfl) (by simp) ?_
    refine AllReadyH.cons (o := { dst := none, op := Op.store 29 (Operand.tmp 5) (Operand.tmp 36), type := 0, pos := "meter.go:109", after := #[{ on := 16, ground := Ground.data }, { on := 15, ground := Ground.data }, { on := 14, ground := Ground.chain }, { on := 0, ground := Ground.phase }, { on := 1, ground := Ground.phase }, { on := 2, ground := Ground.phase }, { on := 3, ground := Ground.phase }, { on := 4, ground := Ground.phase }, { on := 5, ground := Ground.phase }, { on := 6, ground := Ground.phase }, { on := 7, ground := Ground.phase }, { on := 8, ground := Ground.phase }, { on := 9, ground := Ground.phase }, { on := 10, ground := Ground.phase }, { on := 11, ground := Ground.phase }, { on := 12, ground := Ground.phase }, { on := 13, ground := Ground.phase }, { on := 14, ground := Ground.phase }, { on := 15, ground := Ground.phase }, { on := 16, ground := Ground.phase }], guard := none }) rfl (fun K hK => ?_) AllReadyH.nil
    go_simp
    refine hK.out _ _ (hS0.below (by repeat' first | with_reducible exact Below.refl _ _ | with_reducible refine Below.drew ?_ | with_reducible refine below_drewN ?_ _ | with_reducible refine Below.alloc ?_ (by simp) _ | with_reducible refine Below.setCell ?_ (by simp) _)) (fun hHeld => ?_)
    clear hK K
    try simp only [Act.put, List.setIfInBounds_toArray, List.set_cons_zero, List.set_cons_succ]
    refine wpAnyH_done (by kernel_rfl) ?_ _
    have ls : s3 ≤ 18446744073709551615 := by rw [← hs3]; exact fV_le _ _ _ _
    have cs : canB s3 = fop .add (canB asu) (canB bsu) := by rw [← hs3]; exact can_fV _ _ _ _
    clear hs3 hadd hHeld
    go_wp2_with fail
    go_meet
    exact ⟨rfl, s3, 2, ls, cs, rfl⟩
  case rest =>
    obtain ⟨rfl, s, kd, ls, cs0, rfl⟩ := hcut
    have cs := Lib.hid cs0
    clear hS0 cs0 hadd
    subst hW
    clear K1 K2 K3 HB hsz
    subst hz
    have HF : ∀ w, Calls Try.prog 37 #[.float .f64 s] w fun e w' => e = .returned (.bool bo) ∧ w = w' := fun w => by
      have := isFin_any w s ls
      rw [← fn_can s, cs.out, HF0.out] at this
      exact this
    have HMS := fun w => missed_any w asu bsu s OKA.out.sum OKB.out.sum ls
    rw [cs.out] at HMS
    have hsum : (an : Int) + bn ≤ 9007199254740992 := hn.2.2
    have hn0 := hn.1
    have hn1 := hn.2.1
    go_wp2_with fail
    with_reducible refine (HF _).mono ?_
    rintro e w1 ⟨rfl, rfl⟩
    rcases bo with _ | _
    · skip
      go_wp2_with fail
      refine upon_float rfl ?_
      intro p1 kp1 lp1 cp1
      go_wp2_with fail
      refine upon_float rfl ?_
      intro p2 kp2 lp2 cp2
      go_wp2_with fail
      go_quiet (fail)
      go_wp2_with fail
      refine upon_float rfl ?_
      intro dd kdd ldd cdd
      go_wp2_with fail
      refine upon_float rfl ?_
      intro sh ksh lsh csh
      go_wp2_with fail
      refine upon_float rfl ?_
      intro mu kmu lmu cmu
      go_wp2_with fail
      refine upon_float rfl ?_
      intro me2 kme2 lme2 cme2
      go_wp2_with fail
      refine upon_float rfl ?_
      intro sp1 ksp1 lsp1 csp1
      go_wp2_with fail
      refine upon_float rfl ?_
      intro sq ksq lsq csq
      go_wp2_with fail
      refine upon_float rfl ?_
      intro nk knk lnk cnk
      go_wp2_with fail
      refine upon_float rfl ?_
      intro wt kwt lwt cwt
      go_wp2_with fail
      refine upon_float rfl ?_
      intro pr kpr lpr cpr
      go_wp2_with fail
      refine upon_float rfl ?_
      intro sp2 ksp2 lsp2 csp2
      go_wp2
      refine bodyPost_ret (v := (MV.val ⟨0, 0, s, p2, rl, rh, me2, sp2⟩)) (by simp [results, Try.results50, go_sem, MV.val]) rfl ⟨⟨0, 0, s, p2, rl, rh, me2, sp2⟩, rfl, ⟨ls, lp2, hrl, hrh, lme2, lsp2⟩, ?_, ?_⟩
      · unfold mrgC
        simp only [HF0.out, cs.out, CRL.out, CRH.out, cp1.out, cp2.out,  cdd.out, csh.out, cmu.out, cme2.out, csp1.out, csq.out, cnk.out, cwt.out, cpr.out, csp2.out]
        try rfl
      · repeat' first
          | with_reducible exact Below.refl _ _
          | with_reducible refine Below.setCell ?_ (by simp <;> omega) _
          | with_reducible refine Below.alloc ?_ (by simp <;> omega) _
          | with_reducible refine below_drewN ?_ _
          | with_reducible refine Below.drew ?_
    · go_wp2_with fail
      with_reducible refine (HMS _).mono ?_
      rintro e w2 ⟨g, rfl, lg, cg, kg, rfl⟩
      have CG := Lib.hid cg
      clear cg
      go_wp2_with fail
      refine upon_float rfl ?_
      intro p1 kp1 lp1 cp1
      go_wp2_with fail
      refine upon_float rfl ?_
      intro p2 kp2 lp2 cp2
      go_wp2_with fail
      go_quiet (fail)
      go_wp2_with fail
      refine upon_float rfl ?_
      intro dd kdd ldd cdd
      go_wp2_with fail
      refine upon_float rfl ?_
      intro sh ksh lsh csh
      go_wp2_with fail
      refine upon_float rfl ?_
      intro mu kmu lmu cmu
      go_wp2_with fail
      refine upon_float rfl ?_
      intro me2 kme2 lme2 cme2
      go_wp2_with fail
      refine upon_float rfl ?_
      intro sp1 ksp1 lsp1 csp1
      go_wp2_with fail
      refine upon_float rfl ?_
      intro sq ksq lsq csq
      go_wp2_with fail
      refine upon_float rfl ?_
      intro nk knk lnk cnk
      go_wp2_with fail
      refine upon_float rfl ?_
      intro wt kwt lwt cwt
      go_wp2_with fail
      refine upon_float rfl ?_
      intro pr kpr lpr cpr
      go_wp2_with fail
      refine upon_float rfl ?_
      intro sp2 ksp2 lsp2 csp2
      go_wp2
      refine bodyPost_ret (v := (MV.val ⟨0, 0, s, p2, rl, rh, me2, sp2⟩)) (by simp [results, Try.results50, go_sem, MV.val]) rfl ⟨⟨0, 0, s, p2, rl, rh, me2, sp2⟩, rfl, ⟨ls, lp2, hrl, hrh, lme2, lsp2⟩, ?_, ?_⟩
      · unfold mrgC
        simp only [HF0.out, cs.out, CRL.out, CRH.out, cp1.out, cp2.out, CG.out, cdd.out, csh.out, cmu.out, cme2.out, csp1.out, csq.out, cnk.out, cwt.out, cpr.out, csp2.out]
        try rfl
      · repeat' first
          | with_reducible exact Below.refl _ _
          | with_reducible refine Below.setCell ?_ (by simp <;> omega) _
          | with_reducible refine Below.alloc ?_ (by simp <;> omega) _
          | with_reducible refine below_drewN ?_ _
          | with_reducible refine Below.drew ?_
end Go.Proofs.Ytffibfnagoagcaa
