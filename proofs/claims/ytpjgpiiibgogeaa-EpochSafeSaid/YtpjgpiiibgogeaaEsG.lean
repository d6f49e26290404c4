/- The law EpochSafe: its walk. -/
import Derived.Test.YtpjgpiiibgogeaaEsY
import Derived.Deep.CutBlock
import Derived.Deep.RegionHeld3
import Derived.Deep.DeepCutAuto
namespace Go.Proofs.Ytpjgpiiibgogeaa
open Go.RowKit
set_option maxRecDepth 100000
set_option linter.unusedVariables false

set_option maxHeartbeats 6400000 in
theorem epochSafe_walk (A : Option Addr) (n d : Nat) (l0 : List EpkV) (w : World) (h : ArgC w w.heap.size 3 A n d (FE l0)) (hd : d ≤ 5864062014805) (hok : okEpks l0) :
    Calls Try.prog 4 #[.slice A n d] w (ValEnd w (.bool true)) := by
  have hle := h.le
  have HAG := Lib.hid h
  have HOK := Lib.hid hok
  clear h hok
  go_enter Try.func4, Try.ntmps4
  go_wp2_with fail
  with_reducible refine (awake13_any _).mono ?_
  rintro e w1 ⟨rfl, hB⟩
  have HN : Hid (Calls Try.prog 14 #[.int .i64 4] w1 _) := Lib.hid (enewC w w1 hB 4 (by omega) (by omega))
  clear hB
  go_wp2_with fail
  with_reducible refine HN.out.mono ?_
  rintro e w2 ⟨x, rfl, c2, _⟩
  have hON : w.heap.size ≤ w2.heap.size := c2.bel.size
  have C2 := Lib.hid c2
  clear c2 HN
  have hk0 := BlkL.new w2 [.int .u8 0, .int .u8 0, .int .u8 0, .int .u8 0, .int .i64 0, .int .i64 0, .int .i64 0, .int .i64 0, .int .i64 0, .int .i64 0, .int .i64 0, .int .i64 0, .slice none 0 0, .slice none 0 0, .int .i64 0] 57
  have hc0 := C2.out.newX (.cells #[.int .u8 0, .int .u8 0, .int .u8 0, .int .u8 0, .int .i64 0, .int .i64 0, .int .i64 0, .int .i64 0, .int .i64 0, .int .i64 0, .int .i64 0, .int .i64 0, .slice none 0 0, .slice none 0 0, .int .i64 0] 57)
  have M0 : Hid (MnS w (w2.alloc (.cells #[.int .u8 0, .int .u8 0, .int .u8 0, .int .u8 0, .int .i64 0, .int .i64 0, .int .i64 0, .int .i64 0, .int .i64 0, .int .i64 0, .int .i64 0, .int .i64 0, .slice none 0 0, .slice none 0 0, .int .i64 0] 57)) x w2.heap.size 0 [w2.heap.size] (initE 4) wa0 [] none none none 0 0 0) :=
    Lib.hid ⟨⟨hc0, blkF_ofL hk0 rfl (fun j hj => by
      rcases (by omega : j = 0 ∨ j = 1 ∨ j = 2 ∨ j = 3 ∨ j = 4 ∨ j = 5 ∨ j = 6 ∨ j = 7 ∨ j = 8 ∨ j = 9 ∨ j = 10 ∨ j = 11 ∨ j = 12 ∨ j = 13 ∨ j = 14) with rfl | rfl | rfl | rfl | rfl | rfl | rfl | rfl | rfl | rfl | rfl | rfl | rfl | rfl | rfl <;> rfl), OwnO.nil _ _, OwnO.nil _ _, by simp, fun y hy => by simp [thX] at hy, fun y hy => by simp [thX] at hy, fun y hy => by simp [thX] at hy, by simp [thX], by simp [thX], hON⟩, OwnO.nil _ _, fun z hz => by simp [thX] at hz, safe0.1⟩
  clear hk0 hc0 C2
  go_upto_block 0 with fail
  generalize w2.alloc _ = w3 at *
  generalize w2.heap.size = T at *
  go_cut [6] (fun ov wx => EsL w x T ov wx)
  case first =>
    go_wp2_with fail
    go_loopw [6, 37] (fun ov iv wr => EsI w x T n ov iv wr) (fun _ iv _ => n - (intOf iv).toNat)
    case atStart => exact ⟨0, 0, _, _, _, [], none, none, none, 0, 0, 0, Nat.zero_le _, by omega, rfl, rfl, M0.out, safe0.2, Nat.le_refl _, Int.le_refl _, Nat.le_refl _⟩
    case round =>
      obtain ⟨i, k, X, s, v, ow, gA, tA, oA, gc, tc, oc, hi, hi2, rfl, rfl, hs, hnr, hk, htm, hgl⟩ := hrel
      clear M0
      have hbs := hs.h.c.bel.size
      have hto : ∀ wz, MnS w wz x T k X s v ow gA tA oA gc tc oc → i ≤ n → True := fun _ _ _ => trivial
      clear hto
      rcases Nat.lt_or_ge i n with hin | hin
      · obtain ⟨bb, off, rfl, hbb, hcell⟩ := epk_at (HAG.out.below hs.h.c.bel) hin
        have q0 := hcell 0 (by omega)
        have q1 := hcell 1 (by omega)
        have q2 := hcell 2 (by omega)
        have hpok := okEpks_at HOK.out i
        generalize l0.getD i noEpk = p at q0 q1 q2 hpok
        obtain ⟨who, op, thing⟩ := p
        replace q0 : wr.cell? ⟨bb, off + i * 3, none⟩ = some (.int .i64 who) := q0
        replace q1 : wr.cell? ⟨bb, off + i * 3 + 1, none⟩ = some (.int .u8 (op : Int)) := q1
        replace q2 : wr.cell? ⟨bb, off + i * 3 + 2, none⟩ = some (.int .i64 thing) := q2
        have j0 : (0 : Int) ≤ (i : Int) := by omega
        have j1 : (i : Int) < (n : Int) := by omega
        have hbb2 : bb < wr.heap.size := by omega
        have hop1 : op ≤ 255 := hpok.op1
        have S1 : Hid (MnS w (wr.alloc (.cells #[.int .i64 who, .int .u8 (op : Int), .int .i64 thing] 32)) x T k X s v ow gA tA oA gc tc oc) := Lib.hid (hs.below ((Below.refl _ _).alloc (Nat.le_refl _) _))
        have HB := Lib.hid (And.intro hnr (And.intro hk (And.intro htm hgl)))
        clear hcell hpok hs hnr
        rcases Nat.lt_or_ge i 400 with h3 | h3
        · have h3' : ¬ (400 : Int) ≤ (i : Int) := by omega
          have hwe := who4_eq who
          have hql := who4_lt who
          generalize who4 who = q at hwe hql
          have hqw : IntKind.i64.wrap (q : Int) = (q : Int) := IntWalk.i64_in _ (by omega)
          have jq0 : (0 : Int) ≤ (q : Int) := by omega
          have jq4 : (q : Int) < 4 := by omega
          by_cases hop0 : op = 0
          · subst hop0
            have z0 : ((0 : Nat) : Int) = 0 := rfl
            rw [z0] at q1 S1
            clear z0
            have HST := Lib.hid (mstep S1.out (i := q) (by omega) hql (by omega) (by omega))
            go_wp2_with fail
            with_reducible refine HST.out.mono ?_
            rintro e w4 ⟨rfl, k', s', v', m4, hk4, hl4, ht4, hd4⟩
            have HE : Hid (EsI w x T n (.slice oA ow.length oc) (.int .i64 ((i : Int) + 1)) w4) := Lib.hid ⟨i + 1, k', X, s', v', ow, gA, tA, oA, gc, tc, oc, by omega, by omega, by go_num, rfl, m4, HB.out.1.of hd4, by omega, by omega, by omega⟩
            clear m4 hd4
            go_wp2
            go_roundw
            case rel => exact HE.out
            case measure => simp [intOf]; omega
          · have hop0' : ¬ (op : Int) = 0 := by omega
            obtain ⟨o, ho1, ho5, hoe⟩ := eop5_eq op
            have y12 := S1.out.h.gv.1
            have lT := S1.out.h.b.lt
            by_cases hck : checkE (s.wk q) o = 0
            · have HST := Lib.hid (estartC S1.out.h.c q hql o (v.gv.length : Nat) ho1 ho5 hck)
              have HCK := Lib.hid hck
              clear hck
              go_wp2_with fail
              with_reducible refine HST.out.mono ?_
              rintro e w4 ⟨rfl, c4, f4⟩
              have h4 := S1.out.h.call c4 f4
              have ff4 : FrX w.heap.size (thX oA) _ w4 := f4.weak (fun y hy => (S1.out.ap y hy).1)
              have h5 := (h4.putOp q o hql).putBg q 0 hql
              have f5 := (ff4.trans (h4.frT (Z := thX oA) S1.out.ap q (.int .u8 (o : Nat)))).trans ((h4.putOp q o hql).frT (Z := thX oA) S1.out.ap (4 + q) (.int .i64 0))
              have h6 := ((h4.putBg q 0 hql).putOp q o hql)
              have f6 := (ff4.trans (h4.frT (Z := thX oA) S1.out.ap (4 + q) (.int .i64 0))).trans ((h4.putBg q 0 hql).frT (Z := thX oA) S1.out.ap q (.int .u8 (o : Nat)))
              have u0 := (h4.ops hql).1
              have u1 := (h4.ops hql).2
              have u2 := (h4.bg hql).1
              have u3 := (h4.bg hql).2
              have lT4 := h4.b.lt
              by_cases ho3 : o = 3
              · subst ho3
                have hoB : (((3 : Nat) : Int) == 3) = true := rfl
                have hM0 := (Md.of h5 (S1.out.o.frx f5 (fun y hy => hy)) S1.out.ap).below (Below.refl _ _).drew
                have e3 : ((3 : Nat) : Int) = 3 := rfl
                rw [e3] at hM0
                clear e3
                have HSF := Lib.hid (S1.out.sf.startR HB.out.1 hql)
                have hgl' : v.gv.length ≤ 400 := by omega
                have htl' : v.tk.length ≤ 400 := by have := S1.out.sf.lt; omega
                have hol' : ow.length ≤ 400 := by have := S1.out.sf.lo; omega
                clear h5 f5 h6 f6 HST c4 f4 h4 ff4
                go_wp2_with fail
                go_region
                clear u0 u1 u2 u3 y12
                go_wp2_with fail
                go_cut [6] (fun ov wx => ReE w x T k (s.nx q (.retire (v.gv.length : Nat))) { v with ops := updF v.ops q 3, bg := updF v.bg q 0, gv := v.gv ++ [0], tk := v.tk ++ [0] } (ow ++ [q]) ov wx)
                case first =>
                  refine wpLate_begin (S := fun W => BlkF W T 15 (wtF { v with ops := updF v.ops q 3, bg := updF v.bg q 0 } gA tA gc tc)) (late := fun j => decide (20 ≤ j)) (by kernel_rfl) ?_
                  replace hM0 := hM0.below (Below.refl _ _).drew
                  generalize World.drew _ = W0 at hM0 ⊢
                  refine wpLate_takeP (i := 0) (oi := { dst := some 84, op := Op.move (Operand.tmp 5), type := 53, pos := "law.go:166", after := #[], guard := none }) (v := .pointer (some ⟨T, 0, none⟩)) rfl (by kernel_rfl) (by kernel_rfl) (by kernel_rfl) rfl (fun _ _ _ h => h) (Or.inl ⟨by rfl, fun w => ?_⟩) hM0.b ?_
                  · go_simp
                  try simp only [Act.put, List.setIfInBounds_toArray, List.set_cons_zero, List.set_cons_succ]
                  refine wpLate_takeP (i := 1) (oi := { dst := some 85, op := Op.move (Operand.tmp 5), type := 53, pos := "law.go:166", after := #[{ on := 20, ground := Ground.gcOnly Departure.lateStores }], guard := none }) (v := .pointer (some ⟨T, 0, none⟩)) rfl (by kernel_rfl) (by kernel_rfl) (by kernel_rfl) rfl (fun _ _ _ h => h) (Or.inl ⟨by rfl, fun w => ?_⟩) hM0.b ?_
                  · go_simp
                  try simp only [Act.put, List.setIfInBounds_toArray, List.set_cons_zero, List.set_cons_succ]
                  refine wpLate_takeP (i := 2) (oi := { dst := some 86, op := Op.move (Operand.tmp 5), type := 53, pos := "law.go:166", after := #[], guard := none }) (v := .pointer (some ⟨T, 0, none⟩)) rfl (by kernel_rfl) (by kernel_rfl) (by kernel_rfl) rfl (fun _ _ _ h => h) (Or.inl ⟨by rfl, fun w => ?_⟩) hM0.b ?_
                  · go_simp
                  try simp only [Act.put, List.setIfInBounds_toArray, List.set_cons_zero, List.set_cons_succ]
                  refine wpLate_takeP (i := 3) (oi := { dst := some 87, op := Op.nilCheck (Operand.tmp 86), type := 0, pos := "law.go:166", after := #[{ on := 2, ground := Ground.data }], guard := none }) (v := .pointer (some ⟨T, 0, none⟩)) rfl (by kernel_rfl) (by kernel_rfl) (by kernel_rfl) rfl (fun _ _ _ h => h) (Or.inl ⟨by rfl, fun w => ?_⟩) hM0.b ?_
                  · go_simp
                  try simp only [Act.put, List.setIfInBounds_toArray, List.set_cons_zero, List.set_cons_succ]
                  refine wpLate_takeP (i := 4) (oi := { dst := some 88, op := Op.fieldAddr 57 (Operand.tmp 87) 3, type := 0, pos := "law.go:166", after := #[{ on := 3, ground := Ground.data }], guard := none }) (v := .pointer (some ⟨T, 12, none⟩)) rfl (by kernel_rfl) (by kernel_rfl) (by kernel_rfl) rfl (fun _ _ _ h => h) (Or.inl ⟨by rfl, fun w => ?_⟩) hM0.b ?_
                  · go_simp
                  try simp only [Act.put, List.setIfInBounds_toArray, List.set_cons_zero, List.set_cons_succ]
                  refine wpLate_takeL (i := 5) (oi := { dst := some 89, op := Op.load 35 (Operand.tmp 88), type := 35, pos := "law.go:166", after := #[{ on := 4, ground := Ground.data }], guard := none }) (v := .slice gA v.gv.length gc) rfl (by kernel_rfl) (by kernel_rfl) (by kernel_rfl) rfl (late_ofB (by kernel_rfl)) (Waits.ofB (by kernel_rfl)) (fun _ _ _ h => h) (Or.inl ⟨by rfl, fun w hSw => ?_⟩) hM0.b ?_
                  · have y : w.cell? ⟨T, 12, none⟩ = some (.slice gA v.gv.length gc) := hSw.cell 12 (by omega)
                    clear hSw
                    go_simp
                  try simp only [Act.put, List.setIfInBounds_toArray, List.set_cons_zero, List.set_cons_succ]
                  refine wpLate_takeP (i := 8) (oi := { dst := some 92, op := Op.move (Operand.tmp 5), type := 53, pos := "law.go:166", after := #[], guard := none }) (v := .pointer (some ⟨T, 0, none⟩)) rfl (by kernel_rfl) (by kernel_rfl) (by kernel_rfl) rfl (fun _ _ _ h => h) (Or.inl ⟨by rfl, fun w => ?_⟩) hM0.b ?_
                  · go_simp
                  try simp only [Act.put, List.setIfInBounds_toArray, List.set_cons_zero, List.set_cons_succ]
                  refine wpLate_takeP (i := 9) (oi := { dst := some 93, op := Op.nilCheck (Operand.tmp 92), type := 0, pos := "law.go:166", after := #[{ on := 8, ground := Ground.data }], guard := none }) (v := .pointer (some ⟨T, 0, none⟩)) rfl (by kernel_rfl) (by kernel_rfl) (by kernel_rfl) rfl (fun _ _ _ h => h) (Or.inl ⟨by rfl, fun w => ?_⟩) hM0.b ?_
                  · go_simp
                  try simp only [Act.put, List.setIfInBounds_toArray, List.set_cons_zero, List.set_cons_succ]
                  refine wpLate_takeP (i := 10) (oi := { dst := some 94, op := Op.fieldAddr 57 (Operand.tmp 93) 4, type := 0, pos := "law.go:166", after := #[{ on := 9, ground := Ground.data }], guard := none }) (v := .pointer (some ⟨T, 13, none⟩)) rfl (by kernel_rfl) (by kernel_rfl) (by kernel_rfl) rfl (fun _ _ _ h => h) (Or.inl ⟨by rfl, fun w => ?_⟩) hM0.b ?_
                  · go_simp
                  try simp only [Act.put, List.setIfInBounds_toArray, List.set_cons_zero, List.set_cons_succ]
                  refine wpLate_takeL (i := 11) (oi := { dst := some 95, op := Op.load 35 (Operand.tmp 94), type := 35, pos := "law.go:166", after := #[{ on := 10, ground := Ground.data }], guard := none }) (v := .slice tA v.tk.length tc) rfl (by kernel_rfl) (by kernel_rfl) (by kernel_rfl) rfl (late_ofB (by kernel_rfl)) (Waits.ofB (by kernel_rfl)) (fun _ _ _ h => h) (Or.inl ⟨by rfl, fun w hSw => ?_⟩) hM0.b ?_
                  · have y : w.cell? ⟨T, 13, none⟩ = some (.slice tA v.tk.length tc) := hSw.cell 13 (by omega)
                    clear hSw
                    go_simp
                  try simp only [Act.put, List.setIfInBounds_toArray, List.set_cons_zero, List.set_cons_succ]
                  refine wpLate_takeP (i := 14) (oi := { dst := some 98, op := Op.move (Operand.tmp 6), type := 35, pos := "law.go:166", after := #[], guard := none }) (v := .slice oA ow.length oc) rfl (by kernel_rfl) (by kernel_rfl) (by kernel_rfl) rfl (fun _ _ _ h => h) (Or.inl ⟨by rfl, fun w => ?_⟩) hM0.b ?_
                  · go_simp
                  try simp only [Act.put, List.setIfInBounds_toArray, List.set_cons_zero, List.set_cons_succ]
                  refine wpLate_takeP (i := 15) (oi := { dst := some 99, op := Op.move (Operand.tmp 9), type := 3, pos := "law.go:166", after := #[], guard := none }) (v := .int .i64 (q : Int)) rfl (by kernel_rfl) (by kernel_rfl) (by kernel_rfl) rfl (fun _ _ _ h => h) (Or.inl ⟨by rfl, fun w => ?_⟩) hM0.b ?_
                  · go_simp
                  try simp only [Act.put, List.setIfInBounds_toArray, List.set_cons_zero, List.set_cons_succ]
                  refine wpLate_ready (rs := [6, 12, 16]) (by kernel_rfl) (by simp) ?_
                  refine AllLate.cons (o := { dst := some 90, op := Op.buildSlice 35 1 #[(0, Operand.const (Value.int IntKind.i64 0))], type := 35, pos := "law.go:166", after := #[], guard := none }) rfl rfl (fun K hK => ?_) ?_
                  · skip
                    go_simp
                    have hM1 := hM0.alloc1 0 3
                    refine hK.out _ _ hM1.b ?_
                    clear hK K hM0
                    generalize World.alloc _ _ = W1 at hM1 ⊢
                    generalize W0.heap.size = p6 at hM1 ⊢
                    try simp only [Act.put, List.setIfInBounds_toArray, List.set_cons_zero, List.set_cons_succ]
                    refine wpLate_ready (rs := [7, 12, 16]) (by kernel_rfl) (by simp) ?_
                    refine AllLate.cons (o := { dst := some 91, op := Op.call { callee := Callee.builtin Builtin.append, args := #[Operand.tmp 89, Operand.tmp 90], argTypes := #[35, 35] }, type := 35, pos := "law.go:166", after := #[{ on := 5, ground := Ground.data }, { on := 6, ground := Ground.data }], guard := none }) rfl rfl (fun K hK => ?_) ?_
                    · skip
                      refine hM1.step (i := 0) (by omega) rfl (Operand.tmp 89) (Operand.tmp 90) rfl (v.gv.length) rfl (by rfl) p6 1 (0) (by rfl) (by simp) (by have := hgl'; omega) (fun A2 c2 W2 hM2 _ _ => hK.out _ _ hM2.b ?_)
                      clear hK K hM1
                      try simp only [Act.put, List.setIfInBounds_toArray, List.set_cons_zero, List.set_cons_succ]
                      refine wpLate_ready (rs := [12, 16]) (by kernel_rfl) (by simp) ?_
                      refine AllLate.cons (o := { dst := some 96, op := Op.buildSlice 35 1 #[(0, Operand.const (Value.int IntKind.i64 0))], type := 35, pos := "law.go:166", after := #[], guard := none }) rfl rfl (fun K hK => ?_) ?_
                      · skip
                        go_simp
                        have hM3 := hM2.alloc1 0 3
                        refine hK.out _ _ hM3.b ?_
                        clear hK K hM2
                        generalize World.alloc _ _ = W3 at hM3 ⊢
                        generalize W2.heap.size = p12 at hM3 ⊢
                        try simp only [Act.put, List.setIfInBounds_toArray, List.set_cons_zero, List.set_cons_succ]
                        refine wpLate_ready (rs := [13, 16]) (by kernel_rfl) (by simp) ?_
                        refine AllLate.cons (o := { dst := some 97, op := Op.call { callee := Callee.builtin Builtin.append, args := #[Operand.tmp 95, Operand.tmp 96], argTypes := #[35, 35] }, type := 35, pos := "law.go:166", after := #[{ on := 11, ground := Ground.data }, { on := 12, ground := Ground.data }, { on := 7, ground := Ground.chain }], guard := none }) rfl rfl (fun K hK => ?_) ?_
                        · skip
                          refine hM3.step (i := 1) (by omega) rfl (Operand.tmp 95) (Operand.tmp 96) rfl (v.tk.length) rfl (by rfl) p12 1 (0) (by rfl) (by simp) (by have := htl'; omega) (fun A4 c4 W4 hM4 _ _ => hK.out _ _ hM4.b ?_)
                          clear hK K hM3
                          try simp only [Act.put, List.setIfInBounds_toArray, List.set_cons_zero, List.set_cons_succ]
                          refine wpLate_ready (rs := [16]) (by kernel_rfl) (by simp) ?_
                          refine AllLate.cons (o := { dst := some 100, op := Op.buildSlice 35 1 #[(0, Operand.tmp 99)], type := 35, pos := "law.go:166", after := #[{ on := 15, ground := Ground.data }], guard := none }) rfl rfl (fun K hK => ?_) AllLate.nil
                          go_simp
                          have hM5 := hM4.alloc1 (q : Int) 3
                          refine hK.out _ _ hM5.b ?_
                          clear hK K hM4
                          generalize World.alloc _ _ = W5 at hM5 ⊢
                          generalize W4.heap.size = p16 at hM5 ⊢
                          try simp only [Act.put, List.setIfInBounds_toArray, List.set_cons_zero, List.set_cons_succ]
                          refine wpLate_ready (rs := [17]) (by kernel_rfl) (by simp) ?_
                          refine AllLate.cons (o := { dst := some 101, op := Op.call { callee := Callee.builtin Builtin.append, args := #[Operand.tmp 98, Operand.tmp 100], argTypes := #[35, 35] }, type := 35, pos := "law.go:166", after := #[{ on := 14, ground := Ground.data }, { on := 16, ground := Ground.data }, { on := 13, ground := Ground.chain }], guard := none }) rfl rfl (fun K hK => ?_) AllLate.nil
                          refine hM5.step (i := 2) (by omega) rfl (Operand.tmp 98) (Operand.tmp 100) rfl (ow.length) (List.length_map _) (by rfl) p16 1 ((q : Int)) (by rfl) (by simp) (by have := hol'; omega) (fun A6 c6 W6 hM6 _ _ => hK.out _ _ hM6.b ?_)
                          clear hK K hM5
                          try simp only [Act.put, List.setIfInBounds_toArray, List.set_cons_zero, List.set_cons_succ]
                          refine wpLate_takeP (i := 18) (oi := { dst := some 102, op := Op.nilCheck (Operand.tmp 84), type := 0, pos := "law.go:166", after := #[{ on := 0, ground := Ground.data }, { on := 0, ground := Ground.phase }, { on := 1, ground := Ground.textOnly Departure.lateStores }, { on := 2, ground := Ground.phase }, { on := 3, ground := Ground.phase }, { on := 4, ground := Ground.phase }, { on := 5, ground := Ground.phase }, { on := 6, ground := Ground.phase }, { on := 7, ground := Ground.phase }, { on := 8, ground := Ground.textOnly Departure.lateStores }, { on := 9, ground := Ground.textOnly Departure.lateStoresUnsure }, { on := 10, ground := Ground.textOnly Departure.lateStoresUnsure }, { on := 11, ground := Ground.phase }, { on := 12, ground := Ground.textOnly Departure.lateStoresUnsure }, { on := 13, ground := Ground.phase }, { on := 14, ground := Ground.textOnly Departure.lateStores }, { on := 15, ground := Ground.textOnly Departure.lateStores }, { on := 16, ground := Ground.textOnly Departure.lateStoresUnsure }, { on := 17, ground := Ground.phase }], guard := none }) (v := .pointer (some ⟨T, 0, none⟩)) rfl (by kernel_rfl) (by kernel_rfl) (by kernel_rfl) rfl (fun _ _ _ h => h) (Or.inl ⟨by rfl, fun w => ?_⟩) hM6.b ?_
                          · go_simp
                          try simp only [Act.put, List.setIfInBounds_toArray, List.set_cons_zero, List.set_cons_succ]
                          refine wpLate_takeP (i := 19) (oi := { dst := some 103, op := Op.fieldAddr 57 (Operand.tmp 102) 3, type := 0, pos := "law.go:166", after := #[{ on := 18, ground := Ground.data }, { on := 0, ground := Ground.phase }, { on := 1, ground := Ground.textOnly Departure.lateStores }, { on := 2, ground := Ground.phase }, { on := 3, ground := Ground.phase }, { on := 4, ground := Ground.phase }, { on := 5, ground := Ground.phase }, { on := 6, ground := Ground.phase }, { on := 7, ground := Ground.phase }, { on := 8, ground := Ground.textOnly Departure.lateStores }, { on := 9, ground := Ground.textOnly Departure.lateStoresUnsure }, { on := 10, ground := Ground.textOnly Departure.lateStoresUnsure }, { on := 11, ground := Ground.phase }, { on := 12, ground := Ground.textOnly Departure.lateStoresUnsure }, { on := 13, ground := Ground.phase }, { on := 14, ground := Ground.textOnly Departure.lateStores }, { on := 15, ground := Ground.textOnly Departure.lateStores }, { on := 16, ground := Ground.textOnly Departure.lateStoresUnsure }, { on := 17, ground := Ground.phase }], guard := none }) (v := .pointer (some ⟨T, 12, none⟩)) rfl (by kernel_rfl) (by kernel_rfl) (by kernel_rfl) rfl (fun _ _ _ h => h) (Or.inl ⟨by rfl, fun w => ?_⟩) hM6.b ?_
                          · go_simp
                          try simp only [Act.put, List.setIfInBounds_toArray, List.set_cons_zero, List.set_cons_succ]
                          have y12 : W6.cell? ⟨T, 12, none⟩ = some (.slice gA v.gv.length gc) := hM6.b.cell 12 (by omega)
                          have y13 : W6.cell? ⟨T, 13, none⟩ = some (.slice tA v.tk.length tc) := hM6.b.cell 13 (by omega)
                          have z12 := hM6.b.froz 12 (by omega)
                          have z13 := hM6.b.froz 13 (by omega)
                          have hlt := hM6.b.lt
                          have HM := Lib.hid (hM6.leaf (q := q) rfl rfl rfl HSF.out rfl rfl rfl rfl rfl rfl)
                          clear hM6
                          refine wpLate_ready (rs := [20]) (by kernel_rfl) (by simp) (AllLate.last (o := { dst := none, op := Op.store 35 (Operand.tmp 103) (Operand.tmp 91), type := 0, pos := "law.go:166", after := #[{ on := 19, ground := Ground.data }, { on := 7, ground := Ground.data }, { on := 17, ground := Ground.chain }, { on := 0, ground := Ground.phase }, { on := 1, ground := Ground.textOnly Departure.lateStores }, { on := 2, ground := Ground.phase }, { on := 3, ground := Ground.phase }, { on := 4, ground := Ground.phase }, { on := 5, ground := Ground.phase }, { on := 6, ground := Ground.phase }, { on := 7, ground := Ground.phase }, { on := 8, ground := Ground.textOnly Departure.lateStores }, { on := 9, ground := Ground.textOnly Departure.lateStoresUnsure }, { on := 10, ground := Ground.textOnly Departure.lateStoresUnsure }, { on := 11, ground := Ground.phase }, { on := 12, ground := Ground.textOnly Departure.lateStoresUnsure }, { on := 13, ground := Ground.phase }, { on := 14, ground := Ground.textOnly Departure.lateStores }, { on := 15, ground := Ground.textOnly Departure.lateStores }, { on := 16, ground := Ground.textOnly Departure.lateStoresUnsure }, { on := 17, ground := Ground.phase }], guard := none }) rfl rfl (fun K hK => ?_))
                          go_simp
                          refine hK.out _ _ ?_
                          clear hK K
                          try simp only [Act.put, List.setIfInBounds_toArray, List.set_cons_zero, List.set_cons_succ]
                          refine wpAny_one (i := 21) (o := { dst := some 104, op := Op.nilCheck (Operand.tmp 85), type := 0, pos := "law.go:166", after := #[{ on := 1, ground := Ground.data }, { on := 0, ground := Ground.phase }, { on := 1, ground := Ground.phase }, { on := 2, ground := Ground.phase }, { on := 3, ground := Ground.phase }, { on := 4, ground := Ground.phase }, { on := 5, ground := Ground.phase }, { on := 6, ground := Ground.phase }, { on := 7, ground := Ground.phase }, { on := 8, ground := Ground.phase }, { on := 9, ground := Ground.phase }, { on := 10, ground := Ground.phase }, { on := 11, ground := Ground.phase }, { on := 12, ground := Ground.phase }, { on := 13, ground := Ground.phase }, { on := 14, ground := Ground.textOnly Departure.lateStores }, { on := 15, ground := Ground.textOnly Departure.lateStores }, { on := 16, ground := Ground.textOnly Departure.lateStoresUnsure }, { on := 17, ground := Ground.phase }, { on := 18, ground := Ground.phase }, { on := 19, ground := Ground.phase }, { on := 20, ground := Ground.phase }], guard := none }) (by kernel_rfl) rfl (fun K hK => ?_)
                          go_simp
                          refine hK.out _ _ ?_
                          clear hK K
                          try simp only [Act.put, List.setIfInBounds_toArray, List.set_cons_zero, List.set_cons_succ]
                          refine wpAny_one (i := 22) (o := { dst := some 105, op := Op.fieldAddr 57 (Operand.tmp 104) 4, type := 0, pos := "law.go:166", after := #[{ on := 21, ground := Ground.data }, { on := 0, ground := Ground.phase }, { on := 1, ground := Ground.phase }, { on := 2, ground := Ground.phase }, { on := 3, ground := Ground.phase }, { on := 4, ground := Ground.phase }, { on := 5, ground := Ground.phase }, { on := 6, ground := Ground.phase }, { on := 7, ground := Ground.phase }, { on := 8, ground := Ground.phase }, { on := 9, ground := Ground.phase }, { on := 10, ground := Ground.phase }, { on := 11, ground := Ground.phase }, { on := 12, ground := Ground.phase }, { on := 13, ground := Ground.phase }, { on := 14, ground := Ground.textOnly Departure.lateStores }, { on := 15, ground := Ground.textOnly Departure.lateStores }, { on := 16, ground := Ground.textOnly Departure.lateStoresUnsure }, { on := 17, ground := Ground.phase }, { on := 18, ground := Ground.phase }, { on := 19, ground := Ground.phase }, { on := 20, ground := Ground.phase }], guard := none }) (by kernel_rfl) rfl (fun K hK => ?_)
                          go_simp
                          refine hK.out _ _ ?_
                          clear hK K
                          try simp only [Act.put, List.setIfInBounds_toArray, List.set_cons_zero, List.set_cons_succ]
                          refine wpAny_one (i := 23) (o := { dst := none, op := Op.store 35 (Operand.tmp 105) (Operand.tmp 97), type := 0, pos := "law.go:166", after := #[{ on := 22, ground := Ground.data }, { on := 13, ground := Ground.data }, { on := 20, ground := Ground.chain }, { on := 0, ground := Ground.phase }, { on := 1, ground := Ground.phase }, { on := 2, ground := Ground.phase }, { on := 3, ground := Ground.phase }, { on := 4, ground := Ground.phase }, { on := 5, ground := Ground.phase }, { on := 6, ground := Ground.phase }, { on := 7, ground := Ground.phase }, { on := 8, ground := Ground.phase }, { on := 9, ground := Ground.phase }, { on := 10, ground := Ground.phase }, { on := 11, ground := Ground.phase }, { on := 12, ground := Ground.phase }, { on := 13, ground := Ground.phase }, { on := 14, ground := Ground.textOnly Departure.lateStores }, { on := 15, ground := Ground.textOnly Departure.lateStores }, { on := 16, ground := Ground.textOnly Departure.lateStoresUnsure }, { on := 17, ground := Ground.phase }, { on := 18, ground := Ground.phase }, { on := 19, ground := Ground.phase }, { on := 20, ground := Ground.phase }], guard := none }) (by kernel_rfl) rfl (fun K hK => ?_)
                          go_simp
                          refine hK.out _ _ ?_
                          clear hK K
                          try simp only [Act.put, List.setIfInBounds_toArray, List.set_cons_zero, List.set_cons_succ]
                          refine wpAny_one (i := 24) (o := { dst := some 6, op := Op.assign (Operand.tmp 101), type := 35, pos := "law.go:166", after := #[{ on := 17, ground := Ground.data }, { on := 23, ground := Ground.chain }, { on := 0, ground := Ground.phase }, { on := 1, ground := Ground.phase }, { on := 2, ground := Ground.phase }, { on := 3, ground := Ground.phase }, { on := 4, ground := Ground.phase }, { on := 5, ground := Ground.phase }, { on := 6, ground := Ground.phase }, { on := 7, ground := Ground.phase }, { on := 8, ground := Ground.phase }, { on := 9, ground := Ground.phase }, { on := 10, ground := Ground.phase }, { on := 11, ground := Ground.phase }, { on := 12, ground := Ground.phase }, { on := 13, ground := Ground.phase }, { on := 14, ground := Ground.phase }, { on := 15, ground := Ground.phase }, { on := 16, ground := Ground.phase }, { on := 17, ground := Ground.phase }, { on := 18, ground := Ground.phase }, { on := 19, ground := Ground.phase }, { on := 20, ground := Ground.phase }, { on := 21, ground := Ground.phase }, { on := 22, ground := Ground.phase }, { on := 23, ground := Ground.phase }], guard := none }) (by kernel_rfl) rfl (fun K hK => ?_)
                          go_simp
                          refine hK.out _ _ ?_
                          clear hK K
                          try simp only [Act.put, List.setIfInBounds_toArray, List.set_cons_zero, List.set_cons_succ]
                          refine wpAny_end (by kernel_rfl) ?_ _
                          go_wp2_with fail
                          go_meet
                          exact HM.out
                        refine AllLate.cons (o := { dst := some 100, op := Op.buildSlice 35 1 #[(0, Operand.tmp 99)], type := 35, pos := "law.go:166", after := #[{ on := 15, ground := Ground.data }], guard := none }) rfl rfl (fun K hK => ?_) AllLate.nil
                        go_simp
                        have hM4 := hM3.alloc1 (q : Int) 3
                        refine hK.out _ _ hM4.b ?_
                        clear hK K hM3
                        generalize World.alloc _ _ = W4 at hM4 ⊢
                        generalize W3.heap.size = p16 at hM4 ⊢
                        try simp only [Act.put, List.setIfInBounds_toArray, List.set_cons_zero, List.set_cons_succ]
                        refine wpLate_ready (rs := [13]) (by kernel_rfl) (by simp) ?_
                        refine AllLate.cons (o := { dst := some 97, op := Op.call { callee := Callee.builtin Builtin.append, args := #[Operand.tmp 95, Operand.tmp 96], argTypes := #[35, 35] }, type := 35, pos := "law.go:166", after := #[{ on := 11, ground := Ground.data }, { on := 12, ground := Ground.data }, { on := 7, ground := Ground.chain }], guard := none }) rfl rfl (fun K hK => ?_) AllLate.nil
                        refine hM4.step (i := 1) (by omega) rfl (Operand.tmp 95) (Operand.tmp 96) rfl (v.tk.length) rfl (by rfl) p12 1 (0) (by rfl) (by simp) (by have := htl'; omega) (fun A5 c5 W5 hM5 _ _ => hK.out _ _ hM5.b ?_)
                        clear hK K hM4
                        try simp only [Act.put, List.setIfInBounds_toArray, List.set_cons_zero, List.set_cons_succ]
                        refine wpLate_ready (rs := [17]) (by kernel_rfl) (by simp) ?_
                        refine AllLate.cons (o := { dst := some 101, op := Op.call { callee := Callee.builtin Builtin.append, args := #[Operand.tmp 98, Operand.tmp 100], argTypes := #[35, 35] }, type := 35, pos := "law.go:166", after := #[{ on := 14, ground := Ground.data }, { on := 16, ground := Ground.data }, { on := 13, ground := Ground.chain }], guard := none }) rfl rfl (fun K hK => ?_) AllLate.nil
                        refine hM5.step (i := 2) (by omega) rfl (Operand.tmp 98) (Operand.tmp 100) rfl (ow.length) (List.length_map _) (by rfl) p16 1 ((q : Int)) (by rfl) (by simp) (by have := hol'; omega) (fun A6 c6 W6 hM6 _ _ => hK.out _ _ hM6.b ?_)
                        clear hK K hM5
                        try simp only [Act.put, List.setIfInBounds_toArray, List.set_cons_zero, List.set_cons_succ]
                        refine wpLate_takeP (i := 18) (oi := { dst := some 102, op := Op.nilCheck (Operand.tmp 84), type := 0, pos := "law.go:166", after := #[{ on := 0, ground := Ground.data }, { on := 0, ground := Ground.phase }, { on := 1, ground := Ground.textOnly Departure.lateStores }, { on := 2, ground := Ground.phase }, { on := 3, ground := Ground.phase }, { on := 4, ground := Ground.phase }, { on := 5, ground := Ground.phase }, { on := 6, ground := Ground.phase }, { on := 7, ground := Ground.phase }, { on := 8, ground := Ground.textOnly Departure.lateStores }, { on := 9, ground := Ground.textOnly Departure.lateStoresUnsure }, { on := 10, ground := Ground.textOnly Departure.lateStoresUnsure }, { on := 11, ground := Ground.phase }, { on := 12, ground := Ground.textOnly Departure.lateStoresUnsure }, { on := 13, ground := Ground.phase }, { on := 14, ground := Ground.textOnly Departure.lateStores }, { on := 15, ground := Ground.textOnly Departure.lateStores }, { on := 16, ground := Ground.textOnly Departure.lateStoresUnsure }, { on := 17, ground := Ground.phase }], guard := none }) (v := .pointer (some ⟨T, 0, none⟩)) rfl (by kernel_rfl) (by kernel_rfl) (by kernel_rfl) rfl (fun _ _ _ h => h) (Or.inl ⟨by rfl, fun w => ?_⟩) hM6.b ?_
                        · go_simp
                        try simp only [Act.put, List.setIfInBounds_toArray, List.set_cons_zero, List.set_cons_succ]
                        refine wpLate_takeP (i := 19) (oi := { dst := some 103, op := Op.fieldAddr 57 (Operand.tmp 102) 3, type := 0, pos := "law.go:166", after := #[{ on := 18, ground := Ground.data }, { on := 0, ground := Ground.phase }, { on := 1, ground := Ground.textOnly Departure.lateStores }, { on := 2, ground := Ground.phase }, { on := 3, ground := Ground.phase }, { on := 4, ground := Ground.phase }, { on := 5, ground := Ground.phase }, { on := 6, ground := Ground.phase }, { on := 7, ground := Ground.phase }, { on := 8, ground := Ground.textOnly Departure.lateStores }, { on := 9, ground := Ground.textOnly Departure.lateStoresUnsure }, { on := 10, ground := Ground.textOnly Departure.lateStoresUnsure }, { on := 11, ground := Ground.phase }, { on := 12, ground := Ground.textOnly Departure.lateStoresUnsure }, { on := 13, ground := Ground.phase }, { on := 14, ground := Ground.textOnly Departure.lateStores }, { on := 15, ground := Ground.textOnly Departure.lateStores }, { on := 16, ground := Ground.textOnly Departure.lateStoresUnsure }, { on := 17, ground := Ground.phase }], guard := none }) (v := .pointer (some ⟨T, 12, none⟩)) rfl (by kernel_rfl) (by kernel_rfl) (by kernel_rfl) rfl (fun _ _ _ h => h) (Or.inl ⟨by rfl, fun w => ?_⟩) hM6.b ?_
                        · go_simp
                        try simp only [Act.put, List.setIfInBounds_toArray, List.set_cons_zero, List.set_cons_succ]
                        have y12 : W6.cell? ⟨T, 12, none⟩ = some (.slice gA v.gv.length gc) := hM6.b.cell 12 (by omega)
                        have y13 : W6.cell? ⟨T, 13, none⟩ = some (.slice tA v.tk.length tc) := hM6.b.cell 13 (by omega)
                        have z12 := hM6.b.froz 12 (by omega)
                        have z13 := hM6.b.froz 13 (by omega)
                        have hlt := hM6.b.lt
                        have HM := Lib.hid (hM6.leaf (q := q) rfl rfl rfl HSF.out rfl rfl rfl rfl rfl rfl)
                        clear hM6
                        refine wpLate_ready (rs := [20]) (by kernel_rfl) (by simp) (AllLate.last (o := { dst := none, op := Op.store 35 (Operand.tmp 103) (Operand.tmp 91), type := 0, pos := "law.go:166", after := #[{ on := 19, ground := Ground.data }, { on := 7, ground := Ground.data }, { on := 17, ground := Ground.chain }, { on := 0, ground := Ground.phase }, { on := 1, ground := Ground.textOnly Departure.lateStores }, { on := 2, ground := Ground.phase }, { on := 3, ground := Ground.phase }, { on := 4, ground := Ground.phase }, { on := 5, ground := Ground.phase }, { on := 6, ground := Ground.phase }, { on := 7, ground := Ground.phase }, { on := 8, ground := Ground.textOnly Departure.lateStores }, { on := 9, ground := Ground.textOnly Departure.lateStoresUnsure }, { on := 10, ground := Ground.textOnly Departure.lateStoresUnsure }, { on := 11, ground := Ground.phase }, { on := 12, ground := Ground.textOnly Departure.lateStoresUnsure }, { on := 13, ground := Ground.phase }, { on := 14, ground := Ground.textOnly Departure.lateStores }, { on := 15, ground := Ground.textOnly Departure.lateStores }, { on := 16, ground := Ground.textOnly Departure.lateStoresUnsure }, { on := 17, ground := Ground.phase }], guard := none }) rfl rfl (fun K hK => ?_))
                        go_simp
                        refine hK.out _ _ ?_
                        clear hK K
                        try simp only [Act.put, List.setIfInBounds_toArray, List.set_cons_zero, List.set_cons_succ]
                        refine wpAny_one (i := 21) (o := { dst := some 104, op := Op.nilCheck (Operand.tmp 85), type := 0, pos := "law.go:166", after := #[{ on := 1, ground := Ground.data }, { on := 0, ground := Ground.phase }, { on := 1, ground := Ground.phase }, { on := 2, ground := Ground.phase }, { on := 3, ground := Ground.phase }, { on := 4, ground := Ground.phase }, { on := 5, ground := Ground.phase }, { on := 6, ground := Ground.phase }, { on := 7, ground := Ground.phase }, { on := 8, ground := Ground.phase }, { on := 9, ground := Ground.phase }, { on := 10, ground := Ground.phase }, { on := 11, ground := Ground.phase }, { on := 12, ground := Ground.phase }, { on := 13, ground := Ground.phase }, { on := 14, ground := Ground.textOnly Departure.lateStores }, { on := 15, ground := Ground.textOnly Departure.lateStores }, { on := 16, ground := Ground.textOnly Departure.lateStoresUnsure }, { on := 17, ground := Ground.phase }, { on := 18, ground := Ground.phase }, { on := 19, ground := Ground.phase }, { on := 20, ground := Ground.phase }], guard := none }) (by kernel_rfl) rfl (fun K hK => ?_)
                        go_simp
                        refine hK.out _ _ ?_
                        clear hK K
                        try simp only [Act.put, List.setIfInBounds_toArray, List.set_cons_zero, List.set_cons_succ]
                        refine wpAny_one (i := 22) (o := { dst := some 105, op := Op.fieldAddr 57 (Operand.tmp 104) 4, type := 0, pos := "law.go:166", after := #[{ on := 21, ground := Ground.data }, { on := 0, ground := Ground.phase }, { on := 1, ground := Ground.phase }, { on := 2, ground := Ground.phase }, { on := 3, ground := Ground.phase }, { on := 4, ground := Ground.phase }, { on := 5, ground := Ground.phase }, { on := 6, ground := Ground.phase }, { on := 7, ground := Ground.phase }, { on := 8, ground := Ground.phase }, { on := 9, ground := Ground.phase }, { on := 10, ground := Ground.phase }, { on := 11, ground := Ground.phase }, { on := 12, ground := Ground.phase }, { on := 13, ground := Ground.phase }, { on := 14, ground := Ground.textOnly Departure.lateStores }, { on := 15, ground := Ground.textOnly Departure.lateStores }, { on := 16, ground := Ground.textOnly Departure.lateStoresUnsure }, { on := 17, ground := Ground.phase }, { on := 18, ground := Ground.phase }, { on := 19, ground := Ground.phase }, { on := 20, ground := Ground.phase }], guard := none }) (by kernel_rfl) rfl (fun K hK => ?_)
                        go_simp
                        refine hK.out _ _ ?_
                        clear hK K
                        try simp only [Act.put, List.setIfInBounds_toArray, List.set_cons_zero, List.set_cons_succ]
                        refine wpAny_one (i := 23) (o := { dst := none, op := Op.store 35 (Operand.tmp 105) (Operand.tmp 97), type := 0, pos := "law.go:166", after := #[{ on := 22, ground := Ground.data }, { on := 13, ground := Ground.data }, { on := 20, ground := Ground.chain }, { on := 0, ground := Ground.phase }, { on := 1, ground := Ground.phase }, { on := 2, ground := Ground.phase }, { on := 3, ground := Ground.phase }, { on := 4, ground := Ground.phase }, { on := 5, ground := Ground.phase }, { on := 6, ground := Ground.phase }, { on := 7, ground := Ground.phase }, { on := 8, ground := Ground.phase }, { on := 9, ground := Ground.phase }, { on := 10, ground := Ground.phase }, { on := 11, ground := Ground.phase }, { on := 12, ground := Ground.phase }, { on := 13, ground := Ground.phase }, { on := 14, ground := Ground.textOnly Departure.lateStores }, { on := 15, ground := Ground.textOnly Departure.lateStores }, { on := 16, ground := Ground.textOnly Departure.lateStoresUnsure }, { on := 17, ground := Ground.phase }, { on := 18, ground := Ground.phase }, { on := 19, ground := Ground.phase }, { on := 20, ground := Ground.phase }], guard := none }) (by kernel_rfl) rfl (fun K hK => ?_)
                        go_simp
                        refine hK.out _ _ ?_
                        clear hK K
                        try simp only [Act.put, List.setIfInBounds_toArray, List.set_cons_zero, List.set_cons_succ]
                        refine wpAny_one (i := 24) (o := { dst := some 6, op := Op.assign (Operand.tmp 101), type := 35, pos := "law.go:166", after := #[{ on := 17, ground := Ground.data }, { on := 23, ground := Ground.chain }, { on := 0, ground := Ground.phase }, { on := 1, ground := Ground.phase }, { on := 2, ground := Ground.phase }, { on := 3, ground := Ground.phase }, { on := 4, ground := Ground.phase }, { on := 5, ground := Ground.phase }, { on := 6, ground := Ground.phase }, { on := 7, ground := Ground.phase }, { on := 8, ground := Ground.phase }, { on := 9, ground := Ground.phase }, { on := 10, ground := Ground.phase }, { on := 11, ground := Ground.phase }, { on := 12, ground := Ground.phase }, { on := 13, ground := Ground.phase }, { on := 14, ground := Ground.phase }, { on := 15, ground := Ground.phase }, { on := 16, ground := Ground.phase }, { on := 17, ground := Ground.phase }, { on := 18, ground := Ground.phase }, { on := 19, ground := Ground.phase }, { on := 20, ground := Ground.phase }, { on := 21, ground := Ground.phase }, { on := 22, ground := Ground.phase }, { on := 23, ground := Ground.phase }], guard := none }) (by kernel_rfl) rfl (fun K hK => ?_)
                        go_simp
                        refine hK.out _ _ ?_
                        clear hK K
                        try simp only [Act.put, List.setIfInBounds_toArray, List.set_cons_zero, List.set_cons_succ]
                        refine wpAny_end (by kernel_rfl) ?_ _
                        go_wp2_with fail
                        go_meet
                        exact HM.out
                      refine AllLate.cons (o := { dst := some 100, op := Op.buildSlice 35 1 #[(0, Operand.tmp 99)], type := 35, pos := "law.go:166", after := #[{ on := 15, ground := Ground.data }], guard := none }) rfl rfl (fun K hK => ?_) AllLate.nil
                      go_simp
                      have hM3 := hM2.alloc1 (q : Int) 3
                      refine hK.out _ _ hM3.b ?_
                      clear hK K hM2
                      generalize World.alloc _ _ = W3 at hM3 ⊢
                      generalize W2.heap.size = p16 at hM3 ⊢
                      try simp only [Act.put, List.setIfInBounds_toArray, List.set_cons_zero, List.set_cons_succ]
                      refine wpLate_ready (rs := [12]) (by kernel_rfl) (by simp) ?_
                      refine AllLate.cons (o := { dst := some 96, op := Op.buildSlice 35 1 #[(0, Operand.const (Value.int IntKind.i64 0))], type := 35, pos := "law.go:166", after := #[], guard := none }) rfl rfl (fun K hK => ?_) AllLate.nil
                      go_simp
                      have hM4 := hM3.alloc1 0 3
                      refine hK.out _ _ hM4.b ?_
                      clear hK K hM3
                      generalize World.alloc _ _ = W4 at hM4 ⊢
                      generalize W3.heap.size = p12 at hM4 ⊢
                      try simp only [Act.put, List.setIfInBounds_toArray, List.set_cons_zero, List.set_cons_succ]
                      refine wpLate_ready (rs := [13]) (by kernel_rfl) (by simp) ?_
                      refine AllLate.cons (o := { dst := some 97, op := Op.call { callee := Callee.builtin Builtin.append, args := #[Operand.tmp 95, Operand.tmp 96], argTypes := #[35, 35] }, type := 35, pos := "law.go:166", after := #[{ on := 11, ground := Ground.data }, { on := 12, ground := Ground.data }, { on := 7, ground := Ground.chain }], guard := none }) rfl rfl (fun K hK => ?_) AllLate.nil
                      refine hM4.step (i := 1) (by omega) rfl (Operand.tmp 95) (Operand.tmp 96) rfl (v.tk.length) rfl (by rfl) p12 1 (0) (by rfl) (by simp) (by have := htl'; omega) (fun A5 c5 W5 hM5 _ _ => hK.out _ _ hM5.b ?_)
                      clear hK K hM4
                      try simp only [Act.put, List.setIfInBounds_toArray, List.set_cons_zero, List.set_cons_succ]
                      refine wpLate_ready (rs := [17]) (by kernel_rfl) (by simp) ?_
                      refine AllLate.cons (o := { dst := some 101, op := Op.call { callee := Callee.builtin Builtin.append, args := #[Operand.tmp 98, Operand.tmp 100], argTypes := #[35, 35] }, type := 35, pos := "law.go:166", after := #[{ on := 14, ground := Ground.data }, { on := 16, ground := Ground.data }, { on := 13, ground := Ground.chain }], guard := none }) rfl rfl (fun K hK => ?_) AllLate.nil
                      refine hM5.step (i := 2) (by omega) rfl (Operand.tmp 98) (Operand.tmp 100) rfl (ow.length) (List.length_map _) (by rfl) p16 1 ((q : Int)) (by rfl) (by simp) (by have := hol'; omega) (fun A6 c6 W6 hM6 _ _ => hK.out _ _ hM6.b ?_)
                      clear hK K hM5
                      try simp only [Act.put, List.setIfInBounds_toArray, List.set_cons_zero, List.set_cons_succ]
                      refine wpLate_takeP (i := 18) (oi := { dst := some 102, op := Op.nilCheck (Operand.tmp 84), type := 0, pos := "law.go:166", after := #[{ on := 0, ground := Ground.data }, { on := 0, ground := Ground.phase }, { on := 1, ground := Ground.textOnly Departure.lateStores }, { on := 2, ground := Ground.phase }, { on := 3, ground := Ground.phase }, { on := 4, ground := Ground.phase }, { on := 5, ground := Ground.phase }, { on := 6, ground := Ground.phase }, { on := 7, ground := Ground.phase }, { on := 8, ground := Ground.textOnly Departure.lateStores }, { on := 9, ground := Ground.textOnly Departure.lateStoresUnsure }, { on := 10, ground := Ground.textOnly Departure.lateStoresUnsure }, { on := 11, ground := Ground.phase }, { on := 12, ground := Ground.textOnly Departure.lateStoresUnsure }, { on := 13, ground := Ground.phase }, { on := 14, ground := Ground.textOnly Departure.lateStores }, { on := 15, ground := Ground.textOnly Departure.lateStores }, { on := 16, ground := Ground.textOnly Departure.lateStoresUnsure }, { on := 17, ground := Ground.phase }], guard := none }) (v := .pointer (some ⟨T, 0, none⟩)) rfl (by kernel_rfl) (by kernel_rfl) (by kernel_rfl) rfl (fun _ _ _ h => h) (Or.inl ⟨by rfl, fun w => ?_⟩) hM6.b ?_
                      · go_simp
                      try simp only [Act.put, List.setIfInBounds_toArray, List.set_cons_zero, List.set_cons_succ]
                      refine wpLate_takeP (i := 19) (oi := { dst := some 103, op := Op.fieldAddr 57 (Operand.tmp 102) 3, type := 0, pos := "law.go:166", after := #[{ on := 18, ground := Ground.data }, { on := 0, ground := Ground.phase }, { on := 1, ground := Ground.textOnly Departure.lateStores }, { on := 2, ground := Ground.phase }, { on := 3, ground := Ground.phase }, { on := 4, ground := Ground.phase }, { on := 5, ground := Ground.phase }, { on := 6, ground := Ground.phase }, { on := 7, ground := Ground.phase }, { on := 8, ground := Ground.textOnly Departure.lateStores }, { on := 9, ground := Ground.textOnly Departure.lateStoresUnsure }, { on := 10, ground := Ground.textOnly Departure.lateStoresUnsure }, { on := 11, ground := Ground.phase }, { on := 12, ground := Ground.textOnly Departure.lateStoresUnsure }, { on := 13, ground := Ground.phase }, { on := 14, ground := Ground.textOnly Departure.lateStores }, { on := 15, ground := Ground.textOnly Departure.lateStores }, { on := 16, ground := Ground.textOnly Departure.lateStoresUnsure }, { on := 17, ground := Ground.phase }], guard := none }) (v := .pointer (some ⟨T, 12, none⟩)) rfl (by kernel_rfl) (by kernel_rfl) (by kernel_rfl) rfl (fun _ _ _ h => h) (Or.inl ⟨by rfl, fun w => ?_⟩) hM6.b ?_
                      · go_simp
                      try simp only [Act.put, List.setIfInBounds_toArray, List.set_cons_zero, List.set_cons_succ]
                      have y12 : W6.cell? ⟨T, 12, none⟩ = some (.slice gA v.gv.length gc) := hM6.b.cell 12 (by omega)
                      have y13 : W6.cell? ⟨T, 13, none⟩ = some (.slice tA v.tk.length tc) := hM6.b.cell 13 (by omega)
                      have z12 := hM6.b.froz 12 (by omega)
                      have z13 := hM6.b.froz 13 (by omega)
                      have hlt := hM6.b.lt
                      have HM := Lib.hid (hM6.leaf (q := q) rfl rfl rfl HSF.out rfl rfl rfl rfl rfl rfl)
                      clear hM6
                      refine wpLate_ready (rs := [20]) (by kernel_rfl) (by simp) (AllLate.last (o := { dst := none, op := Op.store 35 (Operand.tmp 103) (Operand.tmp 91), type := 0, pos := "law.go:166", after := #[{ on := 19, ground := Ground.data }, { on := 7, ground := Ground.data }, { on := 17, ground := Ground.chain }, { on := 0, ground := Ground.phase }, { on := 1, ground := Ground.textOnly Departure.lateStores }, { on := 2, ground := Ground.phase }, { on := 3, ground := Ground.phase }, { on := 4, ground := Ground.phase }, { on := 5, ground := Ground.phase }, { on := 6, ground := Ground.phase }, { on := 7, ground := Ground.phase }, { on := 8, ground := Ground.textOnly Departure.lateStores }, { on := 9, ground := Ground.textOnly Departure.lateStoresUnsure }, { on := 10, ground := Ground.textOnly Departure.lateStoresUnsure }, { on := 11, ground := Ground.phase }, { on := 12, ground := Ground.textOnly Departure.lateStoresUnsure }, { on := 13, ground := Ground.phase }, { on := 14, ground := Ground.textOnly Departure.lateStores }, { on := 15, ground := Ground.textOnly Departure.lateStores }, { on := 16, ground := Ground.textOnly Departure.lateStoresUnsure }, { on := 17, ground := Ground.phase }], guard := none }) rfl rfl (fun K hK => ?_))
                      go_simp
                      refine hK.out _ _ ?_
                      clear hK K
                      try simp only [Act.put, List.setIfInBounds_toArray, List.set_cons_zero, List.set_cons_succ]
                      refine wpAny_one (i := 21) (o := { dst := some 104, op := Op.nilCheck (Operand.tmp 85), type := 0, pos := "law.go:166", after := #[{ on := 1, ground := Ground.data }, { on := 0, ground := Ground.phase }, { on := 1, ground := Ground.phase }, { on := 2, ground := Ground.phase }, { on := 3, ground := Ground.phase }, { on := 4, ground := Ground.phase }, { on := 5, ground := Ground.phase }, { on := 6, ground := Ground.phase }, { on := 7, ground := Ground.phase }, { on := 8, ground := Ground.phase }, { on := 9, ground := Ground.phase }, { on := 10, ground := Ground.phase }, { on := 11, ground := Ground.phase }, { on := 12, ground := Ground.phase }, { on := 13, ground := Ground.phase }, { on := 14, ground := Ground.textOnly Departure.lateStores }, { on := 15, ground := Ground.textOnly Departure.lateStores }, { on := 16, ground := Ground.textOnly Departure.lateStoresUnsure }, { on := 17, ground := Ground.phase }, { on := 18, ground := Ground.phase }, { on := 19, ground := Ground.phase }, { on := 20, ground := Ground.phase }], guard := none }) (by kernel_rfl) rfl (fun K hK => ?_)
                      go_simp
                      refine hK.out _ _ ?_
                      clear hK K
                      try simp only [Act.put, List.setIfInBounds_toArray, List.set_cons_zero, List.set_cons_succ]
                      refine wpAny_one (i := 22) (o := { dst := some 105, op := Op.fieldAddr 57 (Operand.tmp 104) 4, type := 0, pos := "law.go:166", after := #[{ on := 21, ground := Ground.data }, { on := 0, ground := Ground.phase }, { on := 1, ground := Ground.phase }, { on := 2, ground := Ground.phase }, { on := 3, ground := Ground.phase }, { on := 4, ground := Ground.phase }, { on := 5, ground := Ground.phase }, { on := 6, ground := Ground.phase }, { on := 7, ground := Ground.phase }, { on := 8, ground := Ground.phase }, { on := 9, ground := Ground.phase }, { on := 10, ground := Ground.phase }, { on := 11, ground := Ground.phase }, { on := 12, ground := Ground.phase }, { on := 13, ground := Ground.phase }, { on := 14, ground := Ground.textOnly Departure.lateStores }, { on := 15, ground := Ground.textOnly Departure.lateStores }, { on := 16, ground := Ground.textOnly Departure.lateStoresUnsure }, { on := 17, ground := Ground.phase }, { on := 18, ground := Ground.phase }, { on := 19, ground := Ground.phase }, { on := 20, ground := Ground.phase }], guard := none }) (by kernel_rfl) rfl (fun K hK => ?_)
                      go_simp
                      refine hK.out _ _ ?_
                      clear hK K
                      try simp only [Act.put, List.setIfInBounds_toArray, List.set_cons_zero, List.set_cons_succ]
                      refine wpAny_one (i := 23) (o := { dst := none, op := Op.store 35 (Operand.tmp 105) (Operand.tmp 97), type := 0, pos := "law.go:166", after := #[{ on := 22, ground := Ground.data }, { on := 13, ground := Ground.data }, { on := 20, ground := Ground.chain }, { on := 0, ground := Ground.phase }, { on := 1, ground := Ground.phase }, { on := 2, ground := Ground.phase }, { on := 3, ground := Ground.phase }, { on := 4, ground := Ground.phase }, { on := 5, ground := Ground.phase }, { on := 6, ground := Ground.phase }, { on := 7, ground := Ground.phase }, { on := 8, ground := Ground.phase }, { on := 9, ground := Ground.phase }, { on := 10, ground := Ground.phase }, { on := 11, ground := Ground.phase }, { on := 12, ground := Ground.phase }, { on := 13, ground := Ground.phase }, { on := 14, ground := Ground.textOnly Departure.lateStores }, { on := 15, ground := Ground.textOnly Departure.lateStores }, { on := 16, ground := Ground.textOnly Departure.lateStoresUnsure }, { on := 17, ground := Ground.phase }, { on := 18, ground := Ground.phase }, { on := 19, ground := Ground.phase }, { on := 20, ground := Ground.phase }], guard := none }) (by kernel_rfl) rfl (fun K hK => ?_)
                      go_simp
                      refine hK.out _ _ ?_
                      clear hK K
                      try simp only [Act.put, List.setIfInBounds_toArray, List.set_cons_zero, List.set_cons_succ]
                      refine wpAny_one (i := 24) (o := { dst := some 6, op := Op.assign (Operand.tmp 101), type := 35, pos := "law.go:166", after := #[{ on := 17, ground := Ground.data }, { on := 23, ground := Ground.chain }, { on := 0, ground := Ground.phase }, { on := 1, ground := Ground.phase }, { on := 2, ground := Ground.phase }, { on := 3, ground := Ground.phase }, { on := 4, ground := Ground.phase }, { on := 5, ground := Ground.phase }, { on := 6, ground := Ground.phase }, { on := 7, ground := Ground.phase }, { on := 8, ground := Ground.phase }, { on := 9, ground := Ground.phase }, { on := 10, ground := Ground.phase }, { on := 11, ground := Ground.phase }, { on := 12, ground := Ground.phase }, { on := 13, ground := Ground.phase }, { on := 14, ground := Ground.phase }, { on := 15, ground := Ground.phase }, { on := 16, ground := Ground.phase }, { on := 17, ground := Ground.phase }, { on := 18, ground := Ground.phase }, { on := 19, ground := Ground.phase }, { on := 20, ground := Ground.phase }, { on := 21, ground := Ground.phase }, { on := 22, ground := Ground.phase }, { on := 23, ground := Ground.phase }], guard := none }) (by kernel_rfl) rfl (fun K hK => ?_)
                      go_simp
                      refine hK.out _ _ ?_
                      clear hK K
                      try simp only [Act.put, List.setIfInBounds_toArray, List.set_cons_zero, List.set_cons_succ]
                      refine wpAny_end (by kernel_rfl) ?_ _
                      go_wp2_with fail
                      go_meet
                      exact HM.out
                    refine AllLate.cons (o := { dst := some 96, op := Op.buildSlice 35 1 #[(0, Operand.const (Value.int IntKind.i64 0))], type := 35, pos := "law.go:166", after := #[], guard := none }) rfl rfl (fun K hK => ?_) ?_
                    · skip
                      go_simp
                      have hM2 := hM1.alloc1 0 3
                      refine hK.out _ _ hM2.b ?_
                      clear hK K hM1
                      generalize World.alloc _ _ = W2 at hM2 ⊢
                      generalize W1.heap.size = p12 at hM2 ⊢
                      try simp only [Act.put, List.setIfInBounds_toArray, List.set_cons_zero, List.set_cons_succ]
                      refine wpLate_ready (rs := [7, 16]) (by kernel_rfl) (by simp) ?_
                      refine AllLate.cons (o := { dst := some 91, op := Op.call { callee := Callee.builtin Builtin.append, args := #[Operand.tmp 89, Operand.tmp 90], argTypes := #[35, 35] }, type := 35, pos := "law.go:166", after := #[{ on := 5, ground := Ground.data }, { on := 6, ground := Ground.data }], guard := none }) rfl rfl (fun K hK => ?_) ?_
                      · skip
                        refine hM2.step (i := 0) (by omega) rfl (Operand.tmp 89) (Operand.tmp 90) rfl (v.gv.length) rfl (by rfl) p6 1 (0) (by rfl) (by simp) (by have := hgl'; omega) (fun A3 c3 W3 hM3 _ _ => hK.out _ _ hM3.b ?_)
                        clear hK K hM2
                        try simp only [Act.put, List.setIfInBounds_toArray, List.set_cons_zero, List.set_cons_succ]
                        refine wpLate_ready (rs := [13, 16]) (by kernel_rfl) (by simp) ?_
                        refine AllLate.cons (o := { dst := some 97, op := Op.call { callee := Callee.builtin Builtin.append, args := #[Operand.tmp 95, Operand.tmp 96], argTypes := #[35, 35] }, type := 35, pos := "law.go:166", after := #[{ on := 11, ground := Ground.data }, { on := 12, ground := Ground.data }, { on := 7, ground := Ground.chain }], guard := none }) rfl rfl (fun K hK => ?_) ?_
                        · skip
                          refine hM3.step (i := 1) (by omega) rfl (Operand.tmp 95) (Operand.tmp 96) rfl (v.tk.length) rfl (by rfl) p12 1 (0) (by rfl) (by simp) (by have := htl'; omega) (fun A4 c4 W4 hM4 _ _ => hK.out _ _ hM4.b ?_)
                          clear hK K hM3
                          try simp only [Act.put, List.setIfInBounds_toArray, List.set_cons_zero, List.set_cons_succ]
                          refine wpLate_ready (rs := [16]) (by kernel_rfl) (by simp) ?_
                          refine AllLate.cons (o := { dst := some 100, op := Op.buildSlice 35 1 #[(0, Operand.tmp 99)], type := 35, pos := "law.go:166", after := #[{ on := 15, ground := Ground.data }], guard := none }) rfl rfl (fun K hK => ?_) AllLate.nil
                          go_simp
                          have hM5 := hM4.alloc1 (q : Int) 3
                          refine hK.out _ _ hM5.b ?_
                          clear hK K hM4
                          generalize World.alloc _ _ = W5 at hM5 ⊢
                          generalize W4.heap.size = p16 at hM5 ⊢
                          try simp only [Act.put, List.setIfInBounds_toArray, List.set_cons_zero, List.set_cons_succ]
                          refine wpLate_ready (rs := [17]) (by kernel_rfl) (by simp) ?_
                          refine AllLate.cons (o := { dst := some 101, op := Op.call { callee := Callee.builtin Builtin.append, args := #[Operand.tmp 98, Operand.tmp 100], argTypes := #[35, 35] }, type := 35, pos := "law.go:166", after := #[{ on := 14, ground := Ground.data }, { on := 16, ground := Ground.data }, { on := 13, ground := Ground.chain }], guard := none }) rfl rfl (fun K hK => ?_) AllLate.nil
                          refine hM5.step (i := 2) (by omega) rfl (Operand.tmp 98) (Operand.tmp 100) rfl (ow.length) (List.length_map _) (by rfl) p16 1 ((q : Int)) (by rfl) (by simp) (by have := hol'; omega) (fun A6 c6 W6 hM6 _ _ => hK.out _ _ hM6.b ?_)
                          clear hK K hM5
                          try simp only [Act.put, List.setIfInBounds_toArray, List.set_cons_zero, List.set_cons_succ]
                          refine wpLate_takeP (i := 18) (oi := { dst := some 102, op := Op.nilCheck (Operand.tmp 84), type := 0, pos := "law.go:166", after := #[{ on := 0, ground := Ground.data }, { on := 0, ground := Ground.phase }, { on := 1, ground := Ground.textOnly Departure.lateStores }, { on := 2, ground := Ground.phase }, { on := 3, ground := Ground.phase }, { on := 4, ground := Ground.phase }, { on := 5, ground := Ground.phase }, { on := 6, ground := Ground.phase }, { on := 7, ground := Ground.phase }, { on := 8, ground := Ground.textOnly Departure.lateStores }, { on := 9, ground := Ground.textOnly Departure.lateStoresUnsure }, { on := 10, ground := Ground.textOnly Departure.lateStoresUnsure }, { on := 11, ground := Ground.phase }, { on := 12, ground := Ground.textOnly Departure.lateStoresUnsure }, { on := 13, ground := Ground.phase }, { on := 14, ground := Ground.textOnly Departure.lateStores }, { on := 15, ground := Ground.textOnly Departure.lateStores }, { on := 16, ground := Ground.textOnly Departure.lateStoresUnsure }, { on := 17, ground := Ground.phase }], guard := none }) (v := .pointer (some ⟨T, 0, none⟩)) rfl (by kernel_rfl) (by kernel_rfl) (by kernel_rfl) rfl (fun _ _ _ h => h) (Or.inl ⟨by rfl, fun w => ?_⟩) hM6.b ?_
                          · go_simp
                          try simp only [Act.put, List.setIfInBounds_toArray, List.set_cons_zero, List.set_cons_succ]
                          refine wpLate_takeP (i := 19) (oi := { dst := some 103, op := Op.fieldAddr 57 (Operand.tmp 102) 3, type := 0, pos := "law.go:166", after := #[{ on := 18, ground := Ground.data }, { on := 0, ground := Ground.phase }, { on := 1, ground := Ground.textOnly Departure.lateStores }, { on := 2, ground := Ground.phase }, { on := 3, ground := Ground.phase }, { on := 4, ground := Ground.phase }, { on := 5, ground := Ground.phase }, { on := 6, ground := Ground.phase }, { on := 7, ground := Ground.phase }, { on := 8, ground := Ground.textOnly Departure.lateStores }, { on := 9, ground := Ground.textOnly Departure.lateStoresUnsure }, { on := 10, ground := Ground.textOnly Departure.lateStoresUnsure }, { on := 11, ground := Ground.phase }, { on := 12, ground := Ground.textOnly Departure.lateStoresUnsure }, { on := 13, ground := Ground.phase }, { on := 14, ground := Ground.textOnly Departure.lateStores }, { on := 15, ground := Ground.textOnly Departure.lateStores }, { on := 16, ground := Ground.textOnly Departure.lateStoresUnsure }, { on := 17, ground := Ground.phase }], guard := none }) (v := .pointer (some ⟨T, 12, none⟩)) rfl (by kernel_rfl) (by kernel_rfl) (by kernel_rfl) rfl (fun _ _ _ h => h) (Or.inl ⟨by rfl, fun w => ?_⟩) hM6.b ?_
                          · go_simp
                          try simp only [Act.put, List.setIfInBounds_toArray, List.set_cons_zero, List.set_cons_succ]
                          have y12 : W6.cell? ⟨T, 12, none⟩ = some (.slice gA v.gv.length gc) := hM6.b.cell 12 (by omega)
                          have y13 : W6.cell? ⟨T, 13, none⟩ = some (.slice tA v.tk.length tc) := hM6.b.cell 13 (by omega)
                          have z12 := hM6.b.froz 12 (by omega)
                          have z13 := hM6.b.froz 13 (by omega)
                          have hlt := hM6.b.lt
                          have HM := Lib.hid (hM6.leaf (q := q) rfl rfl rfl HSF.out rfl rfl rfl rfl rfl rfl)
                          clear hM6
                          refine wpLate_ready (rs := [20]) (by kernel_rfl) (by simp) (AllLate.last (o := { dst := none, op := Op.store 35 (Operand.tmp 103) (Operand.tmp 91), type := 0, pos := "law.go:166", after := #[{ on := 19, ground := Ground.data }, { on := 7, ground := Ground.data }, { on := 17, ground := Ground.chain }, { on := 0, ground := Ground.phase }, { on := 1, ground := Ground.textOnly Departure.lateStores }, { on := 2, ground := Ground.phase }, { on := 3, ground := Ground.phase }, { on := 4, ground := Ground.phase }, { on := 5, ground := Ground.phase }, { on := 6, ground := Ground.phase }, { on := 7, ground := Ground.phase }, { on := 8, ground := Ground.textOnly Departure.lateStores }, { on := 9, ground := Ground.textOnly Departure.lateStoresUnsure }, { on := 10, ground := Ground.textOnly Departure.lateStoresUnsure }, { on := 11, ground := Ground.phase }, { on := 12, ground := Ground.textOnly Departure.lateStoresUnsure }, { on := 13, ground := Ground.phase }, { on := 14, ground := Ground.textOnly Departure.lateStores }, { on := 15, ground := Ground.textOnly Departure.lateStores }, { on := 16, ground := Ground.textOnly Departure.lateStoresUnsure }, { on := 17, ground := Ground.phase }], guard := none }) rfl rfl (fun K hK => ?_))
                          go_simp
                          refine hK.out _ _ ?_
                          clear hK K
                          try simp only [Act.put, List.setIfInBounds_toArray, List.set_cons_zero, List.set_cons_succ]
                          refine wpAny_one (i := 21) (o := { dst := some 104, op := Op.nilCheck (Operand.tmp 85), type := 0, pos := "law.go:166", after := #[{ on := 1, ground := Ground.data }, { on := 0, ground := Ground.phase }, { on := 1, ground := Ground.phase }, { on := 2, ground := Ground.phase }, { on := 3, ground := Ground.phase }, { on := 4, ground := Ground.phase }, { on := 5, ground := Ground.phase }, { on := 6, ground := Ground.phase }, { on := 7, ground := Ground.phase }, { on := 8, ground := Ground.phase }, { on := 9, ground := Ground.phase }, { on := 10, ground := Ground.phase }, { on := 11, ground := Ground.phase }, { on := 12, ground := Ground.phase }, { on := 13, ground := Ground.phase }, { on := 14, ground := Ground.textOnly Departure.lateStores }, { on := 15, ground := Ground.textOnly Departure.lateStores }, { on := 16, ground := Ground.textOnly Departure.lateStoresUnsure }, { on := 17, ground := Ground.phase }, { on := 18, ground := Ground.phase }, { on := 19, ground := Ground.phase }, { on := 20, ground := Ground.phase }], guard := none }) (by kernel_rfl) rfl (fun K hK => ?_)
                          go_simp
                          refine hK.out _ _ ?_
                          clear hK K
                          try simp only [Act.put, List.setIfInBounds_toArray, List.set_cons_zero, List.set_cons_succ]
                          refine wpAny_one (i := 22) (o := { dst := some 105, op := Op.fieldAddr 57 (Operand.tmp 104) 4, type := 0, pos := "law.go:166", after := #[{ on := 21, ground := Ground.data }, { on := 0, ground := Ground.phase }, { on := 1, ground := Ground.phase }, { on := 2, ground := Ground.phase }, { on := 3, ground := Ground.phase }, { on := 4, ground := Ground.phase }, { on := 5, ground := Ground.phase }, { on := 6, ground := Ground.phase }, { on := 7, ground := Ground.phase }, { on := 8, ground := Ground.phase }, { on := 9, ground := Ground.phase }, { on := 10, ground := Ground.phase }, { on := 11, ground := Ground.phase }, { on := 12, ground := Ground.phase }, { on := 13, ground := Ground.phase }, { on := 14, ground := Ground.textOnly Departure.lateStores }, { on := 15, ground := Ground.textOnly Departure.lateStores }, { on := 16, ground := Ground.textOnly Departure.lateStoresUnsure }, { on := 17, ground := Ground.phase }, { on := 18, ground := Ground.phase }, { on := 19, ground := Ground.phase }, { on := 20, ground := Ground.phase }], guard := none }) (by kernel_rfl) rfl (fun K hK => ?_)
                          go_simp
                          refine hK.out _ _ ?_
                          clear hK K
                          try simp only [Act.put, List.setIfInBounds_toArray, List.set_cons_zero, List.set_cons_succ]
                          refine wpAny_one (i := 23) (o := { dst := none, op := Op.store 35 (Operand.tmp 105) (Operand.tmp 97), type := 0, pos := "law.go:166", after := #[{ on := 22, ground := Ground.data }, { on := 13, ground := Ground.data }, { on := 20, ground := Ground.chain }, { on := 0, ground := Ground.phase }, { on := 1, ground := Ground.phase }, { on := 2, ground := Ground.phase }, { on := 3, ground := Ground.phase }, { on := 4, ground := Ground.phase }, { on := 5, ground := Ground.phase }, { on := 6, ground := Ground.phase }, { on := 7, ground := Ground.phase }, { on := 8, ground := Ground.phase }, { on := 9, ground := Ground.phase }, { on := 10, ground := Ground.phase }, { on := 11, ground := Ground.phase }, { on := 12, ground := Ground.phase }, { on := 13, ground := Ground.phase }, { on := 14, ground := Ground.textOnly Departure.lateStores }, { on := 15, ground := Ground.textOnly Departure.lateStores }, { on := 16, ground := Ground.textOnly Departure.lateStoresUnsure }, { on := 17, ground := Ground.phase }, { on := 18, ground := Ground.phase }, { on := 19, ground := Ground.phase }, { on := 20, ground := Ground.phase }], guard := none }) (by kernel_rfl) rfl (fun K hK => ?_)
                          go_simp
                          refine hK.out _ _ ?_
                          clear hK K
                          try simp only [Act.put, List.setIfInBounds_toArray, List.set_cons_zero, List.set_cons_succ]
                          refine wpAny_one (i := 24) (o := { dst := some 6, op := Op.assign (Operand.tmp 101), type := 35, pos := "law.go:166", after := #[{ on := 17, ground := Ground.data }, { on := 23, ground := Ground.chain }, { on := 0, ground := Ground.phase }, { on := 1, ground := Ground.phase }, { on := 2, ground := Ground.phase }, { on := 3, ground := Ground.phase }, { on := 4, ground := Ground.phase }, { on := 5, ground := Ground.phase }, { on := 6, ground := Ground.phase }, { on := 7, ground := Ground.phase }, { on := 8, ground := Ground.phase }, { on := 9, ground := Ground.phase }, { on := 10, ground := Ground.phase }, { on := 11, ground := Ground.phase }, { on := 12, ground := Ground.phase }, { on := 13, ground := Ground.phase }, { on := 14, ground := Ground.phase }, { on := 15, ground := Ground.phase }, { on := 16, ground := Ground.phase }, { on := 17, ground := Ground.phase }, { on := 18, ground := Ground.phase }, { on := 19, ground := Ground.phase }, { on := 20, ground := Ground.phase }, { on := 21, ground := Ground.phase }, { on := 22, ground := Ground.phase }, { on := 23, ground := Ground.phase }], guard := none }) (by kernel_rfl) rfl (fun K hK => ?_)
                          go_simp
                          refine hK.out _ _ ?_
                          clear hK K
                          try simp only [Act.put, List.setIfInBounds_toArray, List.set_cons_zero, List.set_cons_succ]
                          refine wpAny_end (by kernel_rfl) ?_ _
                          go_wp2_with fail
                          go_meet
                          exact HM.out
                        refine AllLate.cons (o := { dst := some 100, op := Op.buildSlice 35 1 #[(0, Operand.tmp 99)], type := 35, pos := "law.go:166", after := #[{ on := 15, ground := Ground.data }], guard := none }) rfl rfl (fun K hK => ?_) AllLate.nil
                        go_simp
                        have hM4 := hM3.alloc1 (q : Int) 3
                        refine hK.out _ _ hM4.b ?_
                        clear hK K hM3
                        generalize World.alloc _ _ = W4 at hM4 ⊢
                        generalize W3.heap.size = p16 at hM4 ⊢
                        try simp only [Act.put, List.setIfInBounds_toArray, List.set_cons_zero, List.set_cons_succ]
                        refine wpLate_ready (rs := [13]) (by kernel_rfl) (by simp) ?_
                        refine AllLate.cons (o := { dst := some 97, op := Op.call { callee := Callee.builtin Builtin.append, args := #[Operand.tmp 95, Operand.tmp 96], argTypes := #[35, 35] }, type := 35, pos := "law.go:166", after := #[{ on := 11, ground := Ground.data }, { on := 12, ground := Ground.data }, { on := 7, ground := Ground.chain }], guard := none }) rfl rfl (fun K hK => ?_) AllLate.nil
                        refine hM4.step (i := 1) (by omega) rfl (Operand.tmp 95) (Operand.tmp 96) rfl (v.tk.length) rfl (by rfl) p12 1 (0) (by rfl) (by simp) (by have := htl'; omega) (fun A5 c5 W5 hM5 _ _ => hK.out _ _ hM5.b ?_)
                        clear hK K hM4
                        try simp only [Act.put, List.setIfInBounds_toArray, List.set_cons_zero, List.set_cons_succ]
                        refine wpLate_ready (rs := [17]) (by kernel_rfl) (by simp) ?_
                        refine AllLate.cons (o := { dst := some 101, op := Op.call { callee := Callee.builtin Builtin.append, args := #[Operand.tmp 98, Operand.tmp 100], argTypes := #[35, 35] }, type := 35, pos := "law.go:166", after := #[{ on := 14, ground := Ground.data }, { on := 16, ground := Ground.data }, { on := 13, ground := Ground.chain }], guard := none }) rfl rfl (fun K hK => ?_) AllLate.nil
                        refine hM5.step (i := 2) (by omega) rfl (Operand.tmp 98) (Operand.tmp 100) rfl (ow.length) (List.length_map _) (by rfl) p16 1 ((q : Int)) (by rfl) (by simp) (by have := hol'; omega) (fun A6 c6 W6 hM6 _ _ => hK.out _ _ hM6.b ?_)
                        clear hK K hM5
                        try simp only [Act.put, List.setIfInBounds_toArray, List.set_cons_zero, List.set_cons_succ]
                        refine wpLate_takeP (i := 18) (oi := { dst := some 102, op := Op.nilCheck (Operand.tmp 84), type := 0, pos := "law.go:166", after := #[{ on := 0, ground := Ground.data }, { on := 0, ground := Ground.phase }, { on := 1, ground := Ground.textOnly Departure.lateStores }, { on := 2, ground := Ground.phase }, { on := 3, ground := Ground.phase }, { on := 4, ground := Ground.phase }, { on := 5, ground := Ground.phase }, { on := 6, ground := Ground.phase }, { on := 7, ground := Ground.phase }, { on := 8, ground := Ground.textOnly Departure.lateStores }, { on := 9, ground := Ground.textOnly Departure.lateStoresUnsure }, { on := 10, ground := Ground.textOnly Departure.lateStoresUnsure }, { on := 11, ground := Ground.phase }, { on := 12, ground := Ground.textOnly Departure.lateStoresUnsure }, { on := 13, ground := Ground.phase }, { on := 14, ground := Ground.textOnly Departure.lateStores }, { on := 15, ground := Ground.textOnly Departure.lateStores }, { on := 16, ground := Ground.textOnly Departure.lateStoresUnsure }, { on := 17, ground := Ground.phase }], guard := none }) (v := .pointer (some ⟨T, 0, none⟩)) rfl (by kernel_rfl) (by kernel_rfl) (by kernel_rfl) rfl (fun _ _ _ h => h) (Or.inl ⟨by rfl, fun w => ?_⟩) hM6.b ?_
                        · go_simp
                        try simp only [Act.put, List.setIfInBounds_toArray, List.set_cons_zero, List.set_cons_succ]
                        refine wpLate_takeP (i := 19) (oi := { dst := some 103, op := Op.fieldAddr 57 (Operand.tmp 102) 3, type := 0, pos := "law.go:166", after := #[{ on := 18, ground := Ground.data }, { on := 0, ground := Ground.phase }, { on := 1, ground := Ground.textOnly Departure.lateStores }, { on := 2, ground := Ground.phase }, { on := 3, ground := Ground.phase }, { on := 4, ground := Ground.phase }, { on := 5, ground := Ground.phase }, { on := 6, ground := Ground.phase }, { on := 7, ground := Ground.phase }, { on := 8, ground := Ground.textOnly Departure.lateStores }, { on := 9, ground := Ground.textOnly Departure.lateStoresUnsure }, { on := 10, ground := Ground.textOnly Departure.lateStoresUnsure }, { on := 11, ground := Ground.phase }, { on := 12, ground := Ground.textOnly Departure.lateStoresUnsure }, { on := 13, ground := Ground.phase }, { on := 14, ground := Ground.textOnly Departure.lateStores }, { on := 15, ground := Ground.textOnly Departure.lateStores }, { on := 16, ground := Ground.textOnly Departure.lateStoresUnsure }, { on := 17, ground := Ground.phase }], guard := none }) (v := .pointer (some ⟨T, 12, none⟩)) rfl (by kernel_rfl) (by kernel_rfl) (by kernel_rfl) rfl (fun _ _ _ h => h) (Or.inl ⟨by rfl, fun w => ?_⟩) hM6.b ?_
                        · go_simp
                        try simp only [Act.put, List.setIfInBounds_toArray, List.set_cons_zero, List.set_cons_succ]
                        have y12 : W6.cell? ⟨T, 12, none⟩ = some (.slice gA v.gv.length gc) := hM6.b.cell 12 (by omega)
                        have y13 : W6.cell? ⟨T, 13, none⟩ = some (.slice tA v.tk.length tc) := hM6.b.cell 13 (by omega)
                        have z12 := hM6.b.froz 12 (by omega)
                        have z13 := hM6.b.froz 13 (by omega)
                        have hlt := hM6.b.lt
                        have HM := Lib.hid (hM6.leaf (q := q) rfl rfl rfl HSF.out rfl rfl rfl rfl rfl rfl)
                        clear hM6
                        refine wpLate_ready (rs := [20]) (by kernel_rfl) (by simp) (AllLate.last (o := { dst := none, op := Op.store 35 (Operand.tmp 103) (Operand.tmp 91), type := 0, pos := "law.go:166", after := #[{ on := 19, ground := Ground.data }, { on := 7, ground := Ground.data }, { on := 17, ground := Ground.chain }, { on := 0, ground := Ground.phase }, { on := 1, ground := Ground.textOnly Departure.lateStores }, { on := 2, ground := Ground.phase }, { on := 3, ground := Ground.phase }, { on := 4, ground := Ground.phase }, { on := 5, ground := Ground.phase }, { on := 6, ground := Ground.phase }, { on := 7, ground := Ground.phase }, { on := 8, ground := Ground.textOnly Departure.lateStores }, { on := 9, ground := Ground.textOnly Departure.lateStoresUnsure }, { on := 10, ground := Ground.textOnly Departure.lateStoresUnsure }, { on := 11, ground := Ground.phase }, { on := 12, ground := Ground.textOnly Departure.lateStoresUnsure }, { on := 13, ground := Ground.phase }, { on := 14, ground := Ground.textOnly Departure.lateStores }, { on := 15, ground := Ground.textOnly Departure.lateStores }, { on := 16, ground := Ground.textOnly Departure.lateStoresUnsure }, { on := 17, ground := Ground.phase }], guard := none }) rfl rfl (fun K hK => ?_))
                        go_simp
                        refine hK.out _ _ ?_
                        clear hK K
                        try simp only [Act.put, List.setIfInBounds_toArray, List.set_cons_zero, List.set_cons_succ]
                        refine wpAny_one (i := 21) (o := { dst := some 104, op := Op.nilCheck (Operand.tmp 85), type := 0, pos := "law.go:166", after := #[{ on := 1, ground := Ground.data }, { on := 0, ground := Ground.phase }, { on := 1, ground := Ground.phase }, { on := 2, ground := Ground.phase }, { on := 3, ground := Ground.phase }, { on := 4, ground := Ground.phase }, { on := 5, ground := Ground.phase }, { on := 6, ground := Ground.phase }, { on := 7, ground := Ground.phase }, { on := 8, ground := Ground.phase }, { on := 9, ground := Ground.phase }, { on := 10, ground := Ground.phase }, { on := 11, ground := Ground.phase }, { on := 12, ground := Ground.phase }, { on := 13, ground := Ground.phase }, { on := 14, ground := Ground.textOnly Departure.lateStores }, { on := 15, ground := Ground.textOnly Departure.lateStores }, { on := 16, ground := Ground.textOnly Departure.lateStoresUnsure }, { on := 17, ground := Ground.phase }, { on := 18, ground := Ground.phase }, { on := 19, ground := Ground.phase }, { on := 20, ground := Ground.phase }], guard := none }) (by kernel_rfl) rfl (fun K hK => ?_)
                        go_simp
                        refine hK.out _ _ ?_
                        clear hK K
                        try simp only [Act.put, List.setIfInBounds_toArray, List.set_cons_zero, List.set_cons_succ]
                        refine wpAny_one (i := 22) (o := { dst := some 105, op := Op.fieldAddr 57 (Operand.tmp 104) 4, type := 0, pos := "law.go:166", after := #[{ on := 21, ground := Ground.data }, { on := 0, ground := Ground.phase }, { on := 1, ground := Ground.phase }, { on := 2, ground := Ground.phase }, { on := 3, ground := Ground.phase }, { on := 4, ground := Ground.phase }, { on := 5, ground := Ground.phase }, { on := 6, ground := Ground.phase }, { on := 7, ground := Ground.phase }, { on := 8, ground := Ground.phase }, { on := 9, ground := Ground.phase }, { on := 10, ground := Ground.phase }, { on := 11, ground := Ground.phase }, { on := 12, ground := Ground.phase }, { on := 13, ground := Ground.phase }, { on := 14, ground := Ground.textOnly Departure.lateStores }, { on := 15, ground := Ground.textOnly Departure.lateStores }, { on := 16, ground := Ground.textOnly Departure.lateStoresUnsure }, { on := 17, ground := Ground.phase }, { on := 18, ground := Ground.phase }, { on := 19, ground := Ground.phase }, { on := 20, ground := Ground.phase }], guard := none }) (by kernel_rfl) rfl (fun K hK => ?_)
                        go_simp
                        refine hK.out _ _ ?_
                        clear hK K
                        try simp only [Act.put, List.setIfInBounds_toArray, List.set_cons_zero, List.set_cons_succ]
                        refine wpAny_one (i := 23) (o := { dst := none, op := Op.store 35 (Operand.tmp 105) (Operand.tmp 97), type := 0, pos := "law.go:166", after := #[{ on := 22, ground := Ground.data }, { on := 13, ground := Ground.data }, { on := 20, ground := Ground.chain }, { on := 0, ground := Ground.phase }, { on := 1, ground := Ground.phase }, { on := 2, ground := Ground.phase }, { on := 3, ground := Ground.phase }, { on := 4, ground := Ground.phase }, { on := 5, ground := Ground.phase }, { on := 6, ground := Ground.phase }, { on := 7, ground := Ground.phase }, { on := 8, ground := Ground.phase }, { on := 9, ground := Ground.phase }, { on := 10, ground := Ground.phase }, { on := 11, ground := Ground.phase }, { on := 12, ground := Ground.phase }, { on := 13, ground := Ground.phase }, { on := 14, ground := Ground.textOnly Departure.lateStores }, { on := 15, ground := Ground.textOnly Departure.lateStores }, { on := 16, ground := Ground.textOnly Departure.lateStoresUnsure }, { on := 17, ground := Ground.phase }, { on := 18, ground := Ground.phase }, { on := 19, ground := Ground.phase }, { on := 20, ground := Ground.phase }], guard := none }) (by kernel_rfl) rfl (fun K hK => ?_)
                        go_simp
                        refine hK.out _ _ ?_
                        clear hK K
                        try simp only [Act.put, List.setIfInBounds_toArray, List.set_cons_zero, List.set_cons_succ]
                        refine wpAny_one (i := 24) (o := { dst := some 6, op := Op.assign (Operand.tmp 101), type := 35, pos := "law.go:166", after := #[{ on := 17, ground := Ground.data }, { on := 23, ground := Ground.chain }, { on := 0, ground := Ground.phase }, { on := 1, ground := Ground.phase }, { on := 2, ground := Ground.phase }, { on := 3, ground := Ground.phase }, { on := 4, ground := Ground.phase }, { on := 5, ground := Ground.phase }, { on := 6, ground := Ground.phase }, { on := 7, ground := Ground.phase }, { on := 8, ground := Ground.phase }, { on := 9, ground := Ground.phase }, { on := 10, ground := Ground.phase }, { on := 11, ground := Ground.phase }, { on := 12, ground := Ground.phase }, { on := 13, ground := Ground.phase }, { on := 14, ground := Ground.phase }, { on := 15, ground := Ground.phase }, { on := 16, ground := Ground.phase }, { on := 17, ground := Ground.phase }, { on := 18, ground := Ground.phase }, { on := 19, ground := Ground.phase }, { on := 20, ground := Ground.phase }, { on := 21, ground := Ground.phase }, { on := 22, ground := Ground.phase }, { on := 23, ground := Ground.phase }], guard := none }) (by kernel_rfl) rfl (fun K hK => ?_)
                        go_simp
                        refine hK.out _ _ ?_
                        clear hK K
                        try simp only [Act.put, List.setIfInBounds_toArray, List.set_cons_zero, List.set_cons_succ]
                        refine wpAny_end (by kernel_rfl) ?_ _
                        go_wp2_with fail
                        go_meet
                        exact HM.out
                      refine AllLate.cons (o := { dst := some 100, op := Op.buildSlice 35 1 #[(0, Operand.tmp 99)], type := 35, pos := "law.go:166", after := #[{ on := 15, ground := Ground.data }], guard := none }) rfl rfl (fun K hK => ?_) AllLate.nil
                      go_simp
                      have hM3 := hM2.alloc1 (q : Int) 3
                      refine hK.out _ _ hM3.b ?_
                      clear hK K hM2
                      generalize World.alloc _ _ = W3 at hM3 ⊢
                      generalize W2.heap.size = p16 at hM3 ⊢
                      try simp only [Act.put, List.setIfInBounds_toArray, List.set_cons_zero, List.set_cons_succ]
                      refine wpLate_ready (rs := [7]) (by kernel_rfl) (by simp) ?_
                      refine AllLate.cons (o := { dst := some 91, op := Op.call { callee := Callee.builtin Builtin.append, args := #[Operand.tmp 89, Operand.tmp 90], argTypes := #[35, 35] }, type := 35, pos := "law.go:166", after := #[{ on := 5, ground := Ground.data }, { on := 6, ground := Ground.data }], guard := none }) rfl rfl (fun K hK => ?_) AllLate.nil
                      refine hM3.step (i := 0) (by omega) rfl (Operand.tmp 89) (Operand.tmp 90) rfl (v.gv.length) rfl (by rfl) p6 1 (0) (by rfl) (by simp) (by have := hgl'; omega) (fun A4 c4 W4 hM4 _ _ => hK.out _ _ hM4.b ?_)
                      clear hK K hM3
                      try simp only [Act.put, List.setIfInBounds_toArray, List.set_cons_zero, List.set_cons_succ]
                      refine wpLate_ready (rs := [13]) (by kernel_rfl) (by simp) ?_
                      refine AllLate.cons (o := { dst := some 97, op := Op.call { callee := Callee.builtin Builtin.append, args := #[Operand.tmp 95, Operand.tmp 96], argTypes := #[35, 35] }, type := 35, pos := "law.go:166", after := #[{ on := 11, ground := Ground.data }, { on := 12, ground := Ground.data }, { on := 7, ground := Ground.chain }], guard := none }) rfl rfl (fun K hK => ?_) AllLate.nil
                      refine hM4.step (i := 1) (by omega) rfl (Operand.tmp 95) (Operand.tmp 96) rfl (v.tk.length) rfl (by rfl) p12 1 (0) (by rfl) (by simp) (by have := htl'; omega) (fun A5 c5 W5 hM5 _ _ => hK.out _ _ hM5.b ?_)
                      clear hK K hM4
                      try simp only [Act.put, List.setIfInBounds_toArray, List.set_cons_zero, List.set_cons_succ]
                      refine wpLate_ready (rs := [17]) (by kernel_rfl) (by simp) ?_
                      refine AllLate.cons (o := { dst := some 101, op := Op.call { callee := Callee.builtin Builtin.append, args := #[Operand.tmp 98, Operand.tmp 100], argTypes := #[35, 35] }, type := 35, pos := "law.go:166", after := #[{ on := 14, ground := Ground.data }, { on := 16, ground := Ground.data }, { on := 13, ground := Ground.chain }], guard := none }) rfl rfl (fun K hK => ?_) AllLate.nil
                      refine hM5.step (i := 2) (by omega) rfl (Operand.tmp 98) (Operand.tmp 100) rfl (ow.length) (List.length_map _) (by rfl) p16 1 ((q : Int)) (by rfl) (by simp) (by have := hol'; omega) (fun A6 c6 W6 hM6 _ _ => hK.out _ _ hM6.b ?_)
                      clear hK K hM5
                      try simp only [Act.put, List.setIfInBounds_toArray, List.set_cons_zero, List.set_cons_succ]
                      refine wpLate_takeP (i := 18) (oi := { dst := some 102, op := Op.nilCheck (Operand.tmp 84), type := 0, pos := "law.go:166", after := #[{ on := 0, ground := Ground.data }, { on := 0, ground := Ground.phase }, { on := 1, ground := Ground.textOnly Departure.lateStores }, { on := 2, ground := Ground.phase }, { on := 3, ground := Ground.phase }, { on := 4, ground := Ground.phase }, { on := 5, ground := Ground.phase }, { on := 6, ground := Ground.phase }, { on := 7, ground := Ground.phase }, { on := 8, ground := Ground.textOnly Departure.lateStores }, { on := 9, ground := Ground.textOnly Departure.lateStoresUnsure }, { on := 10, ground := Ground.textOnly Departure.lateStoresUnsure }, { on := 11, ground := Ground.phase }, { on := 12, ground := Ground.textOnly Departure.lateStoresUnsure }, { on := 13, ground := Ground.phase }, { on := 14, ground := Ground.textOnly Departure.lateStores }, { on := 15, ground := Ground.textOnly Departure.lateStores }, { on := 16, ground := Ground.textOnly Departure.lateStoresUnsure }, { on := 17, ground := Ground.phase }], guard := none }) (v := .pointer (some ⟨T, 0, none⟩)) rfl (by kernel_rfl) (by kernel_rfl) (by kernel_rfl) rfl (fun _ _ _ h => h) (Or.inl ⟨by rfl, fun w => ?_⟩) hM6.b ?_
                      · go_simp
                      try simp only [Act.put, List.setIfInBounds_toArray, List.set_cons_zero, List.set_cons_succ]
                      refine wpLate_takeP (i := 19) (oi := { dst := some 103, op := Op.fieldAddr 57 (Operand.tmp 102) 3, type := 0, pos := "law.go:166", after := #[{ on := 18, ground := Ground.data }, { on := 0, ground := Ground.phase }, { on := 1, ground := Ground.textOnly Departure.lateStores }, { on := 2, ground := Ground.phase }, { on := 3, ground := Ground.phase }, { on := 4, ground := Ground.phase }, { on := 5, ground := Ground.phase }, { on := 6, ground := Ground.phase }, { on := 7, ground := Ground.phase }, { on := 8, ground := Ground.textOnly Departure.lateStores }, { on := 9, ground := Ground.textOnly Departure.lateStoresUnsure }, { on := 10, ground := Ground.textOnly Departure.lateStoresUnsure }, { on := 11, ground := Ground.phase }, { on := 12, ground := Ground.textOnly Departure.lateStoresUnsure }, { on := 13, ground := Ground.phase }, { on := 14, ground := Ground.textOnly Departure.lateStores }, { on := 15, ground := Ground.textOnly Departure.lateStores }, { on := 16, ground := Ground.textOnly Departure.lateStoresUnsure }, { on := 17, ground := Ground.phase }], guard := none }) (v := .pointer (some ⟨T, 12, none⟩)) rfl (by kernel_rfl) (by kernel_rfl) (by kernel_rfl) rfl (fun _ _ _ h => h) (Or.inl ⟨by rfl, fun w => ?_⟩) hM6.b ?_
                      · go_simp
                      try simp only [Act.put, List.setIfInBounds_toArray, List.set_cons_zero, List.set_cons_succ]
                      have y12 : W6.cell? ⟨T, 12, none⟩ = some (.slice gA v.gv.length gc) := hM6.b.cell 12 (by omega)
                      have y13 : W6.cell? ⟨T, 13, none⟩ = some (.slice tA v.tk.length tc) := hM6.b.cell 13 (by omega)
                      have z12 := hM6.b.froz 12 (by omega)
                      have z13 := hM6.b.froz 13 (by omega)
                      have hlt := hM6.b.lt
                      have HM := Lib.hid (hM6.leaf (q := q) rfl rfl rfl HSF.out rfl rfl rfl rfl rfl rfl)
                      clear hM6
                      refine wpLate_ready (rs := [20]) (by kernel_rfl) (by simp) (AllLate.last (o := { dst := none, op := Op.store 35 (Operand.tmp 103) (Operand.tmp 91), type := 0, pos := "law.go:166", after := #[{ on := 19, ground := Ground.data }, { on := 7, ground := Ground.data }, { on := 17, ground := Ground.chain }, { on := 0, ground := Ground.phase }, { on := 1, ground := Ground.textOnly Departure.lateStores }, { on := 2, ground := Ground.phase }, { on := 3, ground := Ground.phase }, { on := 4, ground := Ground.phase }, { on := 5, ground := Ground.phase }, { on := 6, ground := Ground.phase }, { on := 7, ground := Ground.phase }, { on := 8, ground := Ground.textOnly Departure.lateStores }, { on := 9, ground := Ground.textOnly Departure.lateStoresUnsure }, { on := 10, ground := Ground.textOnly Departure.lateStoresUnsure }, { on := 11, ground := Ground.phase }, { on := 12, ground := Ground.textOnly Departure.lateStoresUnsure }, { on := 13, ground := Ground.phase }, { on := 14, ground := Ground.textOnly Departure.lateStores }, { on := 15, ground := Ground.textOnly Departure.lateStores }, { on := 16, ground := Ground.textOnly Departure.lateStoresUnsure }, { on := 17, ground := Ground.phase }], guard := none }) rfl rfl (fun K hK => ?_))
                      go_simp
                      refine hK.out _ _ ?_
                      clear hK K
                      try simp only [Act.put, List.setIfInBounds_toArray, List.set_cons_zero, List.set_cons_succ]
                      refine wpAny_one (i := 21) (o := { dst := some 104, op := Op.nilCheck (Operand.tmp 85), type := 0, pos := "law.go:166", after := #[{ on := 1, ground := Ground.data }, { on := 0, ground := Ground.phase }, { on := 1, ground := Ground.phase }, { on := 2, ground := Ground.phase }, { on := 3, ground := Ground.phase }, { on := 4, ground := Ground.phase }, { on := 5, ground := Ground.phase }, { on := 6, ground := Ground.phase }, { on := 7, ground := Ground.phase }, { on := 8, ground := Ground.phase }, { on := 9, ground := Ground.phase }, { on := 10, ground := Ground.phase }, { on := 11, ground := Ground.phase }, { on := 12, ground := Ground.phase }, { on := 13, ground := Ground.phase }, { on := 14, ground := Ground.textOnly Departure.lateStores }, { on := 15, ground := Ground.textOnly Departure.lateStores }, { on := 16, ground := Ground.textOnly Departure.lateStoresUnsure }, { on := 17, ground := Ground.phase }, { on := 18, ground := Ground.phase }, { on := 19, ground := Ground.phase }, { on := 20, ground := Ground.phase }], guard := none }) (by kernel_rfl) rfl (fun K hK => ?_)
                      go_simp
                      refine hK.out _ _ ?_
                      clear hK K
                      try simp only [Act.put, List.setIfInBounds_toArray, List.set_cons_zero, List.set_cons_succ]
                      refine wpAny_one (i := 22) (o := { dst := some 105, op := Op.fieldAddr 57 (Operand.tmp 104) 4, type := 0, pos := "law.go:166", after := #[{ on := 21, ground := Ground.data }, { on := 0, ground := Ground.phase }, { on := 1, ground := Ground.phase }, { on := 2, ground := Ground.phase }, { on := 3, ground := Ground.phase }, { on := 4, ground := Ground.phase }, { on := 5, ground := Ground.phase }, { on := 6, ground := Ground.phase }, { on := 7, ground := Ground.phase }, { on := 8, ground := Ground.phase }, { on := 9, ground := Ground.phase }, { on := 10, ground := Ground.phase }, { on := 11, ground := Ground.phase }, { on := 12, ground := Ground.phase }, { on := 13, ground := Ground.phase }, { on := 14, ground := Ground.textOnly Departure.lateStores }, { on := 15, ground := Ground.textOnly Departure.lateStores }, { on := 16, ground := Ground.textOnly Departure.lateStoresUnsure }, { on := 17, ground := Ground.phase }, { on := 18, ground := Ground.phase }, { on := 19, ground := Ground.phase }, { on := 20, ground := Ground.phase }], guard := none }) (by kernel_rfl) rfl (fun K hK => ?_)
                      go_simp
                      refine hK.out _ _ ?_
                      clear hK K
                      try simp only [Act.put, List.setIfInBounds_toArray, List.set_cons_zero, List.set_cons_succ]
                      refine wpAny_one (i := 23) (o := { dst := none, op := Op.store 35 (Operand.tmp 105) (Operand.tmp 97), type := 0, pos := "law.go:166", after := #[{ on := 22, ground := Ground.data }, { on := 13, ground := Ground.data }, { on := 20, ground := Ground.chain }, { on := 0, ground := Ground.phase }, { on := 1, ground := Ground.phase }, { on := 2, ground := Ground.phase }, { on := 3, ground := Ground.phase }, { on := 4, ground := Ground.phase }, { on := 5, ground := Ground.phase }, { on := 6, ground := Ground.phase }, { on := 7, ground := Ground.phase }, { on := 8, ground := Ground.phase }, { on := 9, ground := Ground.phase }, { on := 10, ground := Ground.phase }, { on := 11, ground := Ground.phase }, { on := 12, ground := Ground.phase }, { on := 13, ground := Ground.phase }, { on := 14, ground := Ground.textOnly Departure.lateStores }, { on := 15, ground := Ground.textOnly Departure.lateStores }, { on := 16, ground := Ground.textOnly Departure.lateStoresUnsure }, { on := 17, ground := Ground.phase }, { on := 18, ground := Ground.phase }, { on := 19, ground := Ground.phase }, { on := 20, ground := Ground.phase }], guard := none }) (by kernel_rfl) rfl (fun K hK => ?_)
                      go_simp
                      refine hK.out _ _ ?_
                      clear hK K
                      try simp only [Act.put, List.setIfInBounds_toArray, List.set_cons_zero, List.set_cons_succ]
                      refine wpAny_one (i := 24) (o := { dst := some 6, op := Op.assign (Operand.tmp 101), type := 35, pos := "law.go:166", after := #[{ on := 17, ground := Ground.data }, { on := 23, ground := Ground.chain }, { on := 0, ground := Ground.phase }, { on := 1, ground := Ground.phase }, { on := 2, ground := Ground.phase }, { on := 3, ground := Ground.phase }, { on := 4, ground := Ground.phase }, { on := 5, ground := Ground.phase }, { on := 6, ground := Ground.phase }, { on := 7, ground := Ground.phase }, { on := 8, ground := Ground.phase }, { on := 9, ground := Ground.phase }, { on := 10, ground := Ground.phase }, { on := 11, ground := Ground.phase }, { on := 12, ground := Ground.phase }, { on := 13, ground := Ground.phase }, { on := 14, ground := Ground.phase }, { on := 15, ground := Ground.phase }, { on := 16, ground := Ground.phase }, { on := 17, ground := Ground.phase }, { on := 18, ground := Ground.phase }, { on := 19, ground := Ground.phase }, { on := 20, ground := Ground.phase }, { on := 21, ground := Ground.phase }, { on := 22, ground := Ground.phase }, { on := 23, ground := Ground.phase }], guard := none }) (by kernel_rfl) rfl (fun K hK => ?_)
                      go_simp
                      refine hK.out _ _ ?_
                      clear hK K
                      try simp only [Act.put, List.setIfInBounds_toArray, List.set_cons_zero, List.set_cons_succ]
                      refine wpAny_end (by kernel_rfl) ?_ _
                      go_wp2_with fail
                      go_meet
                      exact HM.out
                    refine AllLate.cons (o := { dst := some 100, op := Op.buildSlice 35 1 #[(0, Operand.tmp 99)], type := 35, pos := "law.go:166", after := #[{ on := 15, ground := Ground.data }], guard := none }) rfl rfl (fun K hK => ?_) AllLate.nil
                    go_simp
                    have hM2 := hM1.alloc1 (q : Int) 3
                    refine hK.out _ _ hM2.b ?_
                    clear hK K hM1
                    generalize World.alloc _ _ = W2 at hM2 ⊢
                    generalize W1.heap.size = p16 at hM2 ⊢
                    try simp only [Act.put, List.setIfInBounds_toArray, List.set_cons_zero, List.set_cons_succ]
                    refine wpLate_ready (rs := [7, 12]) (by kernel_rfl) (by simp) ?_
                    refine AllLate.cons (o := { dst := some 91, op := Op.call { callee := Callee.builtin Builtin.append, args := #[Operand.tmp 89, Operand.tmp 90], argTypes := #[35, 35] }, type := 35, pos := "law.go:166", after := #[{ on := 5, ground := Ground.data }, { on := 6, ground := Ground.data }], guard := none }) rfl rfl (fun K hK => ?_) ?_
                    · skip
                      refine hM2.step (i := 0) (by omega) rfl (Operand.tmp 89) (Operand.tmp 90) rfl (v.gv.length) rfl (by rfl) p6 1 (0) (by rfl) (by simp) (by have := hgl'; omega) (fun A3 c3 W3 hM3 _ _ => hK.out _ _ hM3.b ?_)
                      clear hK K hM2
                      try simp only [Act.put, List.setIfInBounds_toArray, List.set_cons_zero, List.set_cons_succ]
                      refine wpLate_ready (rs := [12]) (by kernel_rfl) (by simp) ?_
                      refine AllLate.cons (o := { dst := some 96, op := Op.buildSlice 35 1 #[(0, Operand.const (Value.int IntKind.i64 0))], type := 35, pos := "law.go:166", after := #[], guard := none }) rfl rfl (fun K hK => ?_) AllLate.nil
                      go_simp
                      have hM4 := hM3.alloc1 0 3
                      refine hK.out _ _ hM4.b ?_
                      clear hK K hM3
                      generalize World.alloc _ _ = W4 at hM4 ⊢
                      generalize W3.heap.size = p12 at hM4 ⊢
                      try simp only [Act.put, List.setIfInBounds_toArray, List.set_cons_zero, List.set_cons_succ]
                      refine wpLate_ready (rs := [13]) (by kernel_rfl) (by simp) ?_
                      refine AllLate.cons (o := { dst := some 97, op := Op.call { callee := Callee.builtin Builtin.append, args := #[Operand.tmp 95, Operand.tmp 96], argTypes := #[35, 35] }, type := 35, pos := "law.go:166", after := #[{ on := 11, ground := Ground.data }, { on := 12, ground := Ground.data }, { on := 7, ground := Ground.chain }], guard := none }) rfl rfl (fun K hK => ?_) AllLate.nil
                      refine hM4.step (i := 1) (by omega) rfl (Operand.tmp 95) (Operand.tmp 96) rfl (v.tk.length) rfl (by rfl) p12 1 (0) (by rfl) (by simp) (by have := htl'; omega) (fun A5 c5 W5 hM5 _ _ => hK.out _ _ hM5.b ?_)
                      clear hK K hM4
                      try simp only [Act.put, List.setIfInBounds_toArray, List.set_cons_zero, List.set_cons_succ]
                      refine wpLate_ready (rs := [17]) (by kernel_rfl) (by simp) ?_
                      refine AllLate.cons (o := { dst := some 101, op := Op.call { callee := Callee.builtin Builtin.append, args := #[Operand.tmp 98, Operand.tmp 100], argTypes := #[35, 35] }, type := 35, pos := "law.go:166", after := #[{ on := 14, ground := Ground.data }, { on := 16, ground := Ground.data }, { on := 13, ground := Ground.chain }], guard := none }) rfl rfl (fun K hK => ?_) AllLate.nil
                      refine hM5.step (i := 2) (by omega) rfl (Operand.tmp 98) (Operand.tmp 100) rfl (ow.length) (List.length_map _) (by rfl) p16 1 ((q : Int)) (by rfl) (by simp) (by have := hol'; omega) (fun A6 c6 W6 hM6 _ _ => hK.out _ _ hM6.b ?_)
                      clear hK K hM5
                      try simp only [Act.put, List.setIfInBounds_toArray, List.set_cons_zero, List.set_cons_succ]
                      refine wpLate_takeP (i := 18) (oi := { dst := some 102, op := Op.nilCheck (Operand.tmp 84), type := 0, pos := "law.go:166", after := #[{ on := 0, ground := Ground.data }, { on := 0, ground := Ground.phase }, { on := 1, ground := Ground.textOnly Departure.lateStores }, { on := 2, ground := Ground.phase }, { on := 3, ground := Ground.phase }, { on := 4, ground := Ground.phase }, { on := 5, ground := Ground.phase }, { on := 6, ground := Ground.phase }, { on := 7, ground := Ground.phase }, { on := 8, ground := Ground.textOnly Departure.lateStores }, { on := 9, ground := Ground.textOnly Departure.lateStoresUnsure }, { on := 10, ground := Ground.textOnly Departure.lateStoresUnsure }, { on := 11, ground := Ground.phase }, { on := 12, ground := Ground.textOnly Departure.lateStoresUnsure }, { on := 13, ground := Ground.phase }, { on := 14, ground := Ground.textOnly Departure.lateStores }, { on := 15, ground := Ground.textOnly Departure.lateStores }, { on := 16, ground := Ground.textOnly Departure.lateStoresUnsure }, { on := 17, ground := Ground.phase }], guard := none }) (v := .pointer (some ⟨T, 0, none⟩)) rfl (by kernel_rfl) (by kernel_rfl) (by kernel_rfl) rfl (fun _ _ _ h => h) (Or.inl ⟨by rfl, fun w => ?_⟩) hM6.b ?_
                      · go_simp
                      try simp only [Act.put, List.setIfInBounds_toArray, List.set_cons_zero, List.set_cons_succ]
                      refine wpLate_takeP (i := 19) (oi := { dst := some 103, op := Op.fieldAddr 57 (Operand.tmp 102) 3, type := 0, pos := "law.go:166", after := #[{ on := 18, ground := Ground.data }, { on := 0, ground := Ground.phase }, { on := 1, ground := Ground.textOnly Departure.lateStores }, { on := 2, ground := Ground.phase }, { on := 3, ground := Ground.phase }, { on := 4, ground := Ground.phase }, { on := 5, ground := Ground.phase }, { on := 6, ground := Ground.phase }, { on := 7, ground := Ground.phase }, { on := 8, ground := Ground.textOnly Departure.lateStores }, { on := 9, ground := Ground.textOnly Departure.lateStoresUnsure }, { on := 10, ground := Ground.textOnly Departure.lateStoresUnsure }, { on := 11, ground := Ground.phase }, { on := 12, ground := Ground.textOnly Departure.lateStoresUnsure }, { on := 13, ground := Ground.phase }, { on := 14, ground := Ground.textOnly Departure.lateStores }, { on := 15, ground := Ground.textOnly Departure.lateStores }, { on := 16, ground := Ground.textOnly Departure.lateStoresUnsure }, { on := 17, ground := Ground.phase }], guard := none }) (v := .pointer (some ⟨T, 12, none⟩)) rfl (by kernel_rfl) (by kernel_rfl) (by kernel_rfl) rfl (fun _ _ _ h => h) (Or.inl ⟨by rfl, fun w => ?_⟩) hM6.b ?_
                      · go_simp
                      try simp only [Act.put, List.setIfInBounds_toArray, List.set_cons_zero, List.set_cons_succ]
                      have y12 : W6.cell? ⟨T, 12, none⟩ = some (.slice gA v.gv.length gc) := hM6.b.cell 12 (by omega)
                      have y13 : W6.cell? ⟨T, 13, none⟩ = some (.slice tA v.tk.length tc) := hM6.b.cell 13 (by omega)
                      have z12 := hM6.b.froz 12 (by omega)
                      have z13 := hM6.b.froz 13 (by omega)
                      have hlt := hM6.b.lt
                      have HM := Lib.hid (hM6.leaf (q := q) rfl rfl rfl HSF.out rfl rfl rfl rfl rfl rfl)
                      clear hM6
                      refine wpLate_ready (rs := [20]) (by kernel_rfl) (by simp) (AllLate.last (o := { dst := none, op := Op.store 35 (Operand.tmp 103) (Operand.tmp 91), type := 0, pos := "law.go:166", after := #[{ on := 19, ground := Ground.data }, { on := 7, ground := Ground.data }, { on := 17, ground := Ground.chain }, { on := 0, ground := Ground.phase }, { on := 1, ground := Ground.textOnly Departure.lateStores }, { on := 2, ground := Ground.phase }, { on := 3, ground := Ground.phase }, { on := 4, ground := Ground.phase }, { on := 5, ground := Ground.phase }, { on := 6, ground := Ground.phase }, { on := 7, ground := Ground.phase }, { on := 8, ground := Ground.textOnly Departure.lateStores }, { on := 9, ground := Ground.textOnly Departure.lateStoresUnsure }, { on := 10, ground := Ground.textOnly Departure.lateStoresUnsure }, { on := 11, ground := Ground.phase }, { on := 12, ground := Ground.textOnly Departure.lateStoresUnsure }, { on := 13, ground := Ground.phase }, { on := 14, ground := Ground.textOnly Departure.lateStores }, { on := 15, ground := Ground.textOnly Departure.lateStores }, { on := 16, ground := Ground.textOnly Departure.lateStoresUnsure }, { on := 17, ground := Ground.phase }], guard := none }) rfl rfl (fun K hK => ?_))
                      go_simp
                      refine hK.out _ _ ?_
                      clear hK K
                      try simp only [Act.put, List.setIfInBounds_toArray, List.set_cons_zero, List.set_cons_succ]
                      refine wpAny_one (i := 21) (o := { dst := some 104, op := Op.nilCheck (Operand.tmp 85), type := 0, pos := "law.go:166", after := #[{ on := 1, ground := Ground.data }, { on := 0, ground := Ground.phase }, { on := 1, ground := Ground.phase }, { on := 2, ground := Ground.phase }, { on := 3, ground := Ground.phase }, { on := 4, ground := Ground.phase }, { on := 5, ground := Ground.phase }, { on := 6, ground := Ground.phase }, { on := 7, ground := Ground.phase }, { on := 8, ground := Ground.phase }, { on := 9, ground := Ground.phase }, { on := 10, ground := Ground.phase }, { on := 11, ground := Ground.phase }, { on := 12, ground := Ground.phase }, { on := 13, ground := Ground.phase }, { on := 14, ground := Ground.textOnly Departure.lateStores }, { on := 15, ground := Ground.textOnly Departure.lateStores }, { on := 16, ground := Ground.textOnly Departure.lateStoresUnsure }, { on := 17, ground := Ground.phase }, { on := 18, ground := Ground.phase }, { on := 19, ground := Ground.phase }, { on := 20, ground := Ground.phase }], guard := none }) (by kernel_rfl) rfl (fun K hK => ?_)
                      go_simp
                      refine hK.out _ _ ?_
                      clear hK K
                      try simp only [Act.put, List.setIfInBounds_toArray, List.set_cons_zero, List.set_cons_succ]
                      refine wpAny_one (i := 22) (o := { dst := some 105, op := Op.fieldAddr 57 (Operand.tmp 104) 4, type := 0, pos := "law.go:166", after := #[{ on := 21, ground := Ground.data }, { on := 0, ground := Ground.phase }, { on := 1, ground := Ground.phase }, { on := 2, ground := Ground.phase }, { on := 3, ground := Ground.phase }, { on := 4, ground := Ground.phase }, { on := 5, ground := Ground.phase }, { on := 6, ground := Ground.phase }, { on := 7, ground := Ground.phase }, { on := 8, ground := Ground.phase }, { on := 9, ground := Ground.phase }, { on := 10, ground := Ground.phase }, { on := 11, ground := Ground.phase }, { on := 12, ground := Ground.phase }, { on := 13, ground := Ground.phase }, { on := 14, ground := Ground.textOnly Departure.lateStores }, { on := 15, ground := Ground.textOnly Departure.lateStores }, { on := 16, ground := Ground.textOnly Departure.lateStoresUnsure }, { on := 17, ground := Ground.phase }, { on := 18, ground := Ground.phase }, { on := 19, ground := Ground.phase }, { on := 20, ground := Ground.phase }], guard := none }) (by kernel_rfl) rfl (fun K hK => ?_)
                      go_simp
                      refine hK.out _ _ ?_
                      clear hK K
                      try simp only [Act.put, List.setIfInBounds_toArray, List.set_cons_zero, List.set_cons_succ]
                      refine wpAny_one (i := 23) (o := { dst := none, op := Op.store 35 (Operand.tmp 105) (Operand.tmp 97), type := 0, pos := "law.go:166", after := #[{ on := 22, ground := Ground.data }, { on := 13, ground := Ground.data }, { on := 20, ground := Ground.chain }, { on := 0, ground := Ground.phase }, { on := 1, ground := Ground.phase }, { on := 2, ground := Ground.phase }, { on := 3, ground := Ground.phase }, { on := 4, ground := Ground.phase }, { on := 5, ground := Ground.phase }, { on := 6, ground := Ground.phase }, { on := 7, ground := Ground.phase }, { on := 8, ground := Ground.phase }, { on := 9, ground := Ground.phase }, { on := 10, ground := Ground.phase }, { on := 11, ground := Ground.phase }, { on := 12, ground := Ground.phase }, { on := 13, ground := Ground.phase }, { on := 14, ground := Ground.textOnly Departure.lateStores }, { on := 15, ground := Ground.textOnly Departure.lateStores }, { on := 16, ground := Ground.textOnly Departure.lateStoresUnsure }, { on := 17, ground := Ground.phase }, { on := 18, ground := Ground.phase }, { on := 19, ground := Ground.phase }, { on := 20, ground := Ground.phase }], guard := none }) (by kernel_rfl) rfl (fun K hK => ?_)
                      go_simp
                      refine hK.out _ _ ?_
                      clear hK K
                      try simp only [Act.put, List.setIfInBounds_toArray, List.set_cons_zero, List.set_cons_succ]
                      refine wpAny_one (i := 24) (o := { dst := some 6, op := Op.assign (Operand.tmp 101), type := 35, pos := "law.go:166", after := #[{ on := 17, ground := Ground.data }, { on := 23, ground := Ground.chain }, { on := 0, ground := Ground.phase }, { on := 1, ground := Ground.phase }, { on := 2, ground := Ground.phase }, { on := 3, ground := Ground.phase }, { on := 4, ground := Ground.phase }, { on := 5, ground := Ground.phase }, { on := 6, ground := Ground.phase }, { on := 7, ground := Ground.phase }, { on := 8, ground := Ground.phase }, { on := 9, ground := Ground.phase }, { on := 10, ground := Ground.phase }, { on := 11, ground := Ground.phase }, { on := 12, ground := Ground.phase }, { on := 13, ground := Ground.phase }, { on := 14, ground := Ground.phase }, { on := 15, ground := Ground.phase }, { on := 16, ground := Ground.phase }, { on := 17, ground := Ground.phase }, { on := 18, ground := Ground.phase }, { on := 19, ground := Ground.phase }, { on := 20, ground := Ground.phase }, { on := 21, ground := Ground.phase }, { on := 22, ground := Ground.phase }, { on := 23, ground := Ground.phase }], guard := none }) (by kernel_rfl) rfl (fun K hK => ?_)
                      go_simp
                      refine hK.out _ _ ?_
                      clear hK K
                      try simp only [Act.put, List.setIfInBounds_toArray, List.set_cons_zero, List.set_cons_succ]
                      refine wpAny_end (by kernel_rfl) ?_ _
                      go_wp2_with fail
                      go_meet
                      exact HM.out
                    refine AllLate.cons (o := { dst := some 96, op := Op.buildSlice 35 1 #[(0, Operand.const (Value.int IntKind.i64 0))], type := 35, pos := "law.go:166", after := #[], guard := none }) rfl rfl (fun K hK => ?_) AllLate.nil
                    go_simp
                    have hM3 := hM2.alloc1 0 3
                    refine hK.out _ _ hM3.b ?_
                    clear hK K hM2
                    generalize World.alloc _ _ = W3 at hM3 ⊢
                    generalize W2.heap.size = p12 at hM3 ⊢
                    try simp only [Act.put, List.setIfInBounds_toArray, List.set_cons_zero, List.set_cons_succ]
                    refine wpLate_ready (rs := [7]) (by kernel_rfl) (by simp) ?_
                    refine AllLate.cons (o := { dst := some 91, op := Op.call { callee := Callee.builtin Builtin.append, args := #[Operand.tmp 89, Operand.tmp 90], argTypes := #[35, 35] }, type := 35, pos := "law.go:166", after := #[{ on := 5, ground := Ground.data }, { on := 6, ground := Ground.data }], guard := none }) rfl rfl (fun K hK => ?_) AllLate.nil
                    refine hM3.step (i := 0) (by omega) rfl (Operand.tmp 89) (Operand.tmp 90) rfl (v.gv.length) rfl (by rfl) p6 1 (0) (by rfl) (by simp) (by have := hgl'; omega) (fun A4 c4 W4 hM4 _ _ => hK.out _ _ hM4.b ?_)
                    clear hK K hM3
                    try simp only [Act.put, List.setIfInBounds_toArray, List.set_cons_zero, List.set_cons_succ]
                    refine wpLate_ready (rs := [13]) (by kernel_rfl) (by simp) ?_
                    refine AllLate.cons (o := { dst := some 97, op := Op.call { callee := Callee.builtin Builtin.append, args := #[Operand.tmp 95, Operand.tmp 96], argTypes := #[35, 35] }, type := 35, pos := "law.go:166", after := #[{ on := 11, ground := Ground.data }, { on := 12, ground := Ground.data }, { on := 7, ground := Ground.chain }], guard := none }) rfl rfl (fun K hK => ?_) AllLate.nil
                    refine hM4.step (i := 1) (by omega) rfl (Operand.tmp 95) (Operand.tmp 96) rfl (v.tk.length) rfl (by rfl) p12 1 (0) (by rfl) (by simp) (by have := htl'; omega) (fun A5 c5 W5 hM5 _ _ => hK.out _ _ hM5.b ?_)
                    clear hK K hM4
                    try simp only [Act.put, List.setIfInBounds_toArray, List.set_cons_zero, List.set_cons_succ]
                    refine wpLate_ready (rs := [17]) (by kernel_rfl) (by simp) ?_
                    refine AllLate.cons (o := { dst := some 101, op := Op.call { callee := Callee.builtin Builtin.append, args := #[Operand.tmp 98, Operand.tmp 100], argTypes := #[35, 35] }, type := 35, pos := "law.go:166", after := #[{ on := 14, ground := Ground.data }, { on := 16, ground := Ground.data }, { on := 13, ground := Ground.chain }], guard := none }) rfl rfl (fun K hK => ?_) AllLate.nil
                    refine hM5.step (i := 2) (by omega) rfl (Operand.tmp 98) (Operand.tmp 100) rfl (ow.length) (List.length_map _) (by rfl) p16 1 ((q : Int)) (by rfl) (by simp) (by have := hol'; omega) (fun A6 c6 W6 hM6 _ _ => hK.out _ _ hM6.b ?_)
                    clear hK K hM5
                    try simp only [Act.put, List.setIfInBounds_toArray, List.set_cons_zero, List.set_cons_succ]
                    refine wpLate_takeP (i := 18) (oi := { dst := some 102, op := Op.nilCheck (Operand.tmp 84), type := 0, pos := "law.go:166", after := #[{ on := 0, ground := Ground.data }, { on := 0, ground := Ground.phase }, { on := 1, ground := Ground.textOnly Departure.lateStores }, { on := 2, ground := Ground.phase }, { on := 3, ground := Ground.phase }, { on := 4, ground := Ground.phase }, { on := 5, ground := Ground.phase }, { on := 6, ground := Ground.phase }, { on := 7, ground := Ground.phase }, { on := 8, ground := Ground.textOnly Departure.lateStores }, { on := 9, ground := Ground.textOnly Departure.lateStoresUnsure }, { on := 10, ground := Ground.textOnly Departure.lateStoresUnsure }, { on := 11, ground := Ground.phase }, { on := 12, ground := Ground.textOnly Departure.lateStoresUnsure }, { on := 13, ground := Ground.phase }, { on := 14, ground := Ground.textOnly Departure.lateStores }, { on := 15, ground := Ground.textOnly Departure.lateStores }, { on := 16, ground := Ground.textOnly Departure.lateStoresUnsure }, { on := 17, ground := Ground.phase }], guard := none }) (v := .pointer (some ⟨T, 0, none⟩)) rfl (by kernel_rfl) (by kernel_rfl) (by kernel_rfl) rfl (fun _ _ _ h => h) (Or.inl ⟨by rfl, fun w => ?_⟩) hM6.b ?_
                    · go_simp
                    try simp only [Act.put, List.setIfInBounds_toArray, List.set_cons_zero, List.set_cons_succ]
                    refine wpLate_takeP (i := 19) (oi := { dst := some 103, op := Op.fieldAddr 57 (Operand.tmp 102) 3, type := 0, pos := "law.go:166", after := #[{ on := 18, ground := Ground.data }, { on := 0, ground := Ground.phase }, { on := 1, ground := Ground.textOnly Departure.lateStores }, { on := 2, ground := Ground.phase }, { on := 3, ground := Ground.phase }, { on := 4, ground := Ground.phase }, { on := 5, ground := Ground.phase }, { on := 6, ground := Ground.phase }, { on := 7, ground := Ground.phase }, { on := 8, ground := Ground.textOnly Departure.lateStores }, { on := 9, ground := Ground.textOnly Departure.lateStoresUnsure }, { on := 10, ground := Ground.textOnly Departure.lateStoresUnsure }, { on := 11, ground := Ground.phase }, { on := 12, ground := Ground.textOnly Departure.lateStoresUnsure }, { on := 13, ground := Ground.phase }, { on := 14, ground := Ground.textOnly Departure.lateStores }, { on := 15, ground := Ground.textOnly Departure.lateStores }, { on := 16, ground := Ground.textOnly Departure.lateStoresUnsure }, { on := 17, ground := Ground.phase }], guard := none }) (v := .pointer (some ⟨T, 12, none⟩)) rfl (by kernel_rfl) (by kernel_rfl) (by kernel_rfl) rfl (fun _ _ _ h => h) (Or.inl ⟨by rfl, fun w => ?_⟩) hM6.b ?_
                    · go_simp
                    try simp only [Act.put, List.setIfInBounds_toArray, List.set_cons_zero, List.set_cons_succ]
                    have y12 : W6.cell? ⟨T, 12, none⟩ = some (.slice gA v.gv.length gc) := hM6.b.cell 12 (by omega)
                    have y13 : W6.cell? ⟨T, 13, none⟩ = some (.slice tA v.tk.length tc) := hM6.b.cell 13 (by omega)
                    have z12 := hM6.b.froz 12 (by omega)
                    have z13 := hM6.b.froz 13 (by omega)
                    have hlt := hM6.b.lt
                    have HM := Lib.hid (hM6.leaf (q := q) rfl rfl rfl HSF.out rfl rfl rfl rfl rfl rfl)
                    clear hM6
                    refine wpLate_ready (rs := [20]) (by kernel_rfl) (by simp) (AllLate.last (o := { dst := none, op := Op.store 35 (Operand.tmp 103) (Operand.tmp 91), type := 0, pos := "law.go:166", after := #[{ on := 19, ground := Ground.data }, { on := 7, ground := Ground.data }, { on := 17, ground := Ground.chain }, { on := 0, ground := Ground.phase }, { on := 1, ground := Ground.textOnly Departure.lateStores }, { on := 2, ground := Ground.phase }, { on := 3, ground := Ground.phase }, { on := 4, ground := Ground.phase }, { on := 5, ground := Ground.phase }, { on := 6, ground := Ground.phase }, { on := 7, ground := Ground.phase }, { on := 8, ground := Ground.textOnly Departure.lateStores }, { on := 9, ground := Ground.textOnly Departure.lateStoresUnsure }, { on := 10, ground := Ground.textOnly Departure.lateStoresUnsure }, { on := 11, ground := Ground.phase }, { on := 12, ground := Ground.textOnly Departure.lateStoresUnsure }, { on := 13, ground := Ground.phase }, { on := 14, ground := Ground.textOnly Departure.lateStores }, { on := 15, ground := Ground.textOnly Departure.lateStores }, { on := 16, ground := Ground.textOnly Departure.lateStoresUnsure }, { on := 17, ground := Ground.phase }], guard := none }) rfl rfl (fun K hK => ?_))
                    go_simp
                    refine hK.out _ _ ?_
                    clear hK K
                    try simp only [Act.put, List.setIfInBounds_toArray, List.set_cons_zero, List.set_cons_succ]
                    refine wpAny_one (i := 21) (o := { dst := some 104, op := Op.nilCheck (Operand.tmp 85), type := 0, pos := "law.go:166", after := #[{ on := 1, ground := Ground.data }, { on := 0, ground := Ground.phase }, { on := 1, ground := Ground.phase }, { on := 2, ground := Ground.phase }, { on := 3, ground := Ground.phase }, { on := 4, ground := Ground.phase }, { on := 5, ground := Ground.phase }, { on := 6, ground := Ground.phase }, { on := 7, ground := Ground.phase }, { on := 8, ground := Ground.phase }, { on := 9, ground := Ground.phase }, { on := 10, ground := Ground.phase }, { on := 11, ground := Ground.phase }, { on := 12, ground := Ground.phase }, { on := 13, ground := Ground.phase }, { on := 14, ground := Ground.textOnly Departure.lateStores }, { on := 15, ground := Ground.textOnly Departure.lateStores }, { on := 16, ground := Ground.textOnly Departure.lateStoresUnsure }, { on := 17, ground := Ground.phase }, { on := 18, ground := Ground.phase }, { on := 19, ground := Ground.phase }, { on := 20, ground := Ground.phase }], guard := none }) (by kernel_rfl) rfl (fun K hK => ?_)
                    go_simp
                    refine hK.out _ _ ?_
                    clear hK K
                    try simp only [Act.put, List.setIfInBounds_toArray, List.set_cons_zero, List.set_cons_succ]
                    refine wpAny_one (i := 22) (o := { dst := some 105, op := Op.fieldAddr 57 (Operand.tmp 104) 4, type := 0, pos := "law.go:166", after := #[{ on := 21, ground := Ground.data }, { on := 0, ground := Ground.phase }, { on := 1, ground := Ground.phase }, { on := 2, ground := Ground.phase }, { on := 3, ground := Ground.phase }, { on := 4, ground := Ground.phase }, { on := 5, ground := Ground.phase }, { on := 6, ground := Ground.phase }, { on := 7, ground := Ground.phase }, { on := 8, ground := Ground.phase }, { on := 9, ground := Ground.phase }, { on := 10, ground := Ground.phase }, { on := 11, ground := Ground.phase }, { on := 12, ground := Ground.phase }, { on := 13, ground := Ground.phase }, { on := 14, ground := Ground.textOnly Departure.lateStores }, { on := 15, ground := Ground.textOnly Departure.lateStores }, { on := 16, ground := Ground.textOnly Departure.lateStoresUnsure }, { on := 17, ground := Ground.phase }, { on := 18, ground := Ground.phase }, { on := 19, ground := Ground.phase }, { on := 20, ground := Ground.phase }], guard := none }) (by kernel_rfl) rfl (fun K hK => ?_)
                    go_simp
                    refine hK.out _ _ ?_
                    clear hK K
                    try simp only [Act.put, List.setIfInBounds_toArray, List.set_cons_zero, List.set_cons_succ]
                    refine wpAny_one (i := 23) (o := { dst := none, op := Op.store 35 (Operand.tmp 105) (Operand.tmp 97), type := 0, pos := "law.go:166", after := #[{ on := 22, ground := Ground.data }, { on := 13, ground := Ground.data }, { on := 20, ground := Ground.chain }, { on := 0, ground := Ground.phase }, { on := 1, ground := Ground.phase }, { on := 2, ground := Ground.phase }, { on := 3, ground := Ground.phase }, { on := 4, ground := Ground.phase }, { on := 5, ground := Ground.phase }, { on := 6, ground := Ground.phase }, { on := 7, ground := Ground.phase }, { on := 8, ground := Ground.phase }, { on := 9, ground := Ground.phase }, { on := 10, ground := Ground.phase }, { on := 11, ground := Ground.phase }, { on := 12, ground := Ground.phase }, { on := 13, ground := Ground.phase }, { on := 14, ground := Ground.textOnly Departure.lateStores }, { on := 15, ground := Ground.textOnly Departure.lateStores }, { on := 16, ground := Ground.textOnly Departure.lateStoresUnsure }, { on := 17, ground := Ground.phase }, { on := 18, ground := Ground.phase }, { on := 19, ground := Ground.phase }, { on := 20, ground := Ground.phase }], guard := none }) (by kernel_rfl) rfl (fun K hK => ?_)
                    go_simp
                    refine hK.out _ _ ?_
                    clear hK K
                    try simp only [Act.put, List.setIfInBounds_toArray, List.set_cons_zero, List.set_cons_succ]
                    refine wpAny_one (i := 24) (o := { dst := some 6, op := Op.assign (Operand.tmp 101), type := 35, pos := "law.go:166", after := #[{ on := 17, ground := Ground.data }, { on := 23, ground := Ground.chain }, { on := 0, ground := Ground.phase }, { on := 1, ground := Ground.phase }, { on := 2, ground := Ground.phase }, { on := 3, ground := Ground.phase }, { on := 4, ground := Ground.phase }, { on := 5, ground := Ground.phase }, { on := 6, ground := Ground.phase }, { on := 7, ground := Ground.phase }, { on := 8, ground := Ground.phase }, { on := 9, ground := Ground.phase }, { on := 10, ground := Ground.phase }, { on := 11, ground := Ground.phase }, { on := 12, ground := Ground.phase }, { on := 13, ground := Ground.phase }, { on := 14, ground := Ground.phase }, { on := 15, ground := Ground.phase }, { on := 16, ground := Ground.phase }, { on := 17, ground := Ground.phase }, { on := 18, ground := Ground.phase }, { on := 19, ground := Ground.phase }, { on := 20, ground := Ground.phase }, { on := 21, ground := Ground.phase }, { on := 22, ground := Ground.phase }, { on := 23, ground := Ground.phase }], guard := none }) (by kernel_rfl) rfl (fun K hK => ?_)
                    go_simp
                    refine hK.out _ _ ?_
                    clear hK K
                    try simp only [Act.put, List.setIfInBounds_toArray, List.set_cons_zero, List.set_cons_succ]
                    refine wpAny_end (by kernel_rfl) ?_ _
                    go_wp2_with fail
                    go_meet
                    exact HM.out
                  refine AllLate.cons (o := { dst := some 96, op := Op.buildSlice 35 1 #[(0, Operand.const (Value.int IntKind.i64 0))], type := 35, pos := "law.go:166", after := #[], guard := none }) rfl rfl (fun K hK => ?_) ?_
                  · skip
                    go_simp
                    have hM1 := hM0.alloc1 0 3
                    refine hK.out _ _ hM1.b ?_
                    clear hK K hM0
                    generalize World.alloc _ _ = W1 at hM1 ⊢
                    generalize W0.heap.size = p12 at hM1 ⊢
                    try simp only [Act.put, List.setIfInBounds_toArray, List.set_cons_zero, List.set_cons_succ]
                    refine wpLate_ready (rs := [6, 16]) (by kernel_rfl) (by simp) ?_
                    refine AllLate.cons (o := { dst := some 90, op := Op.buildSlice 35 1 #[(0, Operand.const (Value.int IntKind.i64 0))], type := 35, pos := "law.go:166", after := #[], guard := none }) rfl rfl (fun K hK => ?_) ?_
                    · skip
                      go_simp
                      have hM2 := hM1.alloc1 0 3
                      refine hK.out _ _ hM2.b ?_
                      clear hK K hM1
                      generalize World.alloc _ _ = W2 at hM2 ⊢
                      generalize W1.heap.size = p6 at hM2 ⊢
                      try simp only [Act.put, List.setIfInBounds_toArray, List.set_cons_zero, List.set_cons_succ]
                      refine wpLate_ready (rs := [7, 16]) (by kernel_rfl) (by simp) ?_
                      refine AllLate.cons (o := { dst := some 91, op := Op.call { callee := Callee.builtin Builtin.append, args := #[Operand.tmp 89, Operand.tmp 90], argTypes := #[35, 35] }, type := 35, pos := "law.go:166", after := #[{ on := 5, ground := Ground.data }, { on := 6, ground := Ground.data }], guard := none }) rfl rfl (fun K hK => ?_) ?_
                      · skip
                        refine hM2.step (i := 0) (by omega) rfl (Operand.tmp 89) (Operand.tmp 90) rfl (v.gv.length) rfl (by rfl) p6 1 (0) (by rfl) (by simp) (by have := hgl'; omega) (fun A3 c3 W3 hM3 _ _ => hK.out _ _ hM3.b ?_)
                        clear hK K hM2
                        try simp only [Act.put, List.setIfInBounds_toArray, List.set_cons_zero, List.set_cons_succ]
                        refine wpLate_ready (rs := [13, 16]) (by kernel_rfl) (by simp) ?_
                        refine AllLate.cons (o := { dst := some 97, op := Op.call { callee := Callee.builtin Builtin.append, args := #[Operand.tmp 95, Operand.tmp 96], argTypes := #[35, 35] }, type := 35, pos := "law.go:166", after := #[{ on := 11, ground := Ground.data }, { on := 12, ground := Ground.data }, { on := 7, ground := Ground.chain }], guard := none }) rfl rfl (fun K hK => ?_) ?_
                        · skip
                          refine hM3.step (i := 1) (by omega) rfl (Operand.tmp 95) (Operand.tmp 96) rfl (v.tk.length) rfl (by rfl) p12 1 (0) (by rfl) (by simp) (by have := htl'; omega) (fun A4 c4 W4 hM4 _ _ => hK.out _ _ hM4.b ?_)
                          clear hK K hM3
                          try simp only [Act.put, List.setIfInBounds_toArray, List.set_cons_zero, List.set_cons_succ]
                          refine wpLate_ready (rs := [16]) (by kernel_rfl) (by simp) ?_
                          refine AllLate.cons (o := { dst := some 100, op := Op.buildSlice 35 1 #[(0, Operand.tmp 99)], type := 35, pos := "law.go:166", after := #[{ on := 15, ground := Ground.data }], guard := none }) rfl rfl (fun K hK => ?_) AllLate.nil
                          go_simp
                          have hM5 := hM4.alloc1 (q : Int) 3
                          refine hK.out _ _ hM5.b ?_
                          clear hK K hM4
                          generalize World.alloc _ _ = W5 at hM5 ⊢
                          generalize W4.heap.size = p16 at hM5 ⊢
                          try simp only [Act.put, List.setIfInBounds_toArray, List.set_cons_zero, List.set_cons_succ]
                          refine wpLate_ready (rs := [17]) (by kernel_rfl) (by simp) ?_
                          refine AllLate.cons (o := { dst := some 101, op := Op.call { callee := Callee.builtin Builtin.append, args := #[Operand.tmp 98, Operand.tmp 100], argTypes := #[35, 35] }, type := 35, pos := "law.go:166", after := #[{ on := 14, ground := Ground.data }, { on := 16, ground := Ground.data }, { on := 13, ground := Ground.chain }], guard := none }) rfl rfl (fun K hK => ?_) AllLate.nil
                          refine hM5.step (i := 2) (by omega) rfl (Operand.tmp 98) (Operand.tmp 100) rfl (ow.length) (List.length_map _) (by rfl) p16 1 ((q : Int)) (by rfl) (by simp) (by have := hol'; omega) (fun A6 c6 W6 hM6 _ _ => hK.out _ _ hM6.b ?_)
                          clear hK K hM5
                          try simp only [Act.put, List.setIfInBounds_toArray, List.set_cons_zero, List.set_cons_succ]
                          refine wpLate_takeP (i := 18) (oi := { dst := some 102, op := Op.nilCheck (Operand.tmp 84), type := 0, pos := "law.go:166", after := #[{ on := 0, ground := Ground.data }, { on := 0, ground := Ground.phase }, { on := 1, ground := Ground.textOnly Departure.lateStores }, { on := 2, ground := Ground.phase }, { on := 3, ground := Ground.phase }, { on := 4, ground := Ground.phase }, { on := 5, ground := Ground.phase }, { on := 6, ground := Ground.phase }, { on := 7, ground := Ground.phase }, { on := 8, ground := Ground.textOnly Departure.lateStores }, { on := 9, ground := Ground.textOnly Departure.lateStoresUnsure }, { on := 10, ground := Ground.textOnly Departure.lateStoresUnsure }, { on := 11, ground := Ground.phase }, { on := 12, ground := Ground.textOnly Departure.lateStoresUnsure }, { on := 13, ground := Ground.phase }, { on := 14, ground := Ground.textOnly Departure.lateStores }, { on := 15, ground := Ground.textOnly Departure.lateStores }, { on := 16, ground := Ground.textOnly Departure.lateStoresUnsure }, { on := 17, ground := Ground.phase }], guard := none }) (v := .pointer (some ⟨T, 0, none⟩)) rfl (by kernel_rfl) (by kernel_rfl) (by kernel_rfl) rfl (fun _ _ _ h => h) (Or.inl ⟨by rfl, fun w => ?_⟩) hM6.b ?_
                          · go_simp
                          try simp only [Act.put, List.setIfInBounds_toArray, List.set_cons_zero, List.set_cons_succ]
                          refine wpLate_takeP (i := 19) (oi := { dst := some 103, op := Op.fieldAddr 57 (Operand.tmp 102) 3, type := 0, pos := "law.go:166", after := #[{ on := 18, ground := Ground.data }, { on := 0, ground := Ground.phase }, { on := 1, ground := Ground.textOnly Departure.lateStores }, { on := 2, ground := Ground.phase }, { on := 3, ground := Ground.phase }, { on := 4, ground := Ground.phase }, { on := 5, ground := Ground.phase }, { on := 6, ground := Ground.phase }, { on := 7, ground := Ground.phase }, { on := 8, ground := Ground.textOnly Departure.lateStores }, { on := 9, ground := Ground.textOnly Departure.lateStoresUnsure }, { on := 10, ground := Ground.textOnly Departure.lateStoresUnsure }, { on := 11, ground := Ground.phase }, { on := 12, ground := Ground.textOnly Departure.lateStoresUnsure }, { on := 13, ground := Ground.phase }, { on := 14, ground := Ground.textOnly Departure.lateStores }, { on := 15, ground := Ground.textOnly Departure.lateStores }, { on := 16, ground := Ground.textOnly Departure.lateStoresUnsure }, { on := 17, ground := Ground.phase }], guard := none }) (v := .pointer (some ⟨T, 12, none⟩)) rfl (by kernel_rfl) (by kernel_rfl) (by kernel_rfl) rfl (fun _ _ _ h => h) (Or.inl ⟨by rfl, fun w => ?_⟩) hM6.b ?_
                          · go_simp
                          try simp only [Act.put, List.setIfInBounds_toArray, List.set_cons_zero, List.set_cons_succ]
                          have y12 : W6.cell? ⟨T, 12, none⟩ = some (.slice gA v.gv.length gc) := hM6.b.cell 12 (by omega)
                          have y13 : W6.cell? ⟨T, 13, none⟩ = some (.slice tA v.tk.length tc) := hM6.b.cell 13 (by omega)
                          have z12 := hM6.b.froz 12 (by omega)
                          have z13 := hM6.b.froz 13 (by omega)
                          have hlt := hM6.b.lt
                          have HM := Lib.hid (hM6.leaf (q := q) rfl rfl rfl HSF.out rfl rfl rfl rfl rfl rfl)
                          clear hM6
                          refine wpLate_ready (rs := [20]) (by kernel_rfl) (by simp) (AllLate.last (o := { dst := none, op := Op.store 35 (Operand.tmp 103) (Operand.tmp 91), type := 0, pos := "law.go:166", after := #[{ on := 19, ground := Ground.data }, { on := 7, ground := Ground.data }, { on := 17, ground := Ground.chain }, { on := 0, ground := Ground.phase }, { on := 1, ground := Ground.textOnly Departure.lateStores }, { on := 2, ground := Ground.phase }, { on := 3, ground := Ground.phase }, { on := 4, ground := Ground.phase }, { on := 5, ground := Ground.phase }, { on := 6, ground := Ground.phase }, { on := 7, ground := Ground.phase }, { on := 8, ground := Ground.textOnly Departure.lateStores }, { on := 9, ground := Ground.textOnly Departure.lateStoresUnsure }, { on := 10, ground := Ground.textOnly Departure.lateStoresUnsure }, { on := 11, ground := Ground.phase }, { on := 12, ground := Ground.textOnly Departure.lateStoresUnsure }, { on := 13, ground := Ground.phase }, { on := 14, ground := Ground.textOnly Departure.lateStores }, { on := 15, ground := Ground.textOnly Departure.lateStores }, { on := 16, ground := Ground.textOnly Departure.lateStoresUnsure }, { on := 17, ground := Ground.phase }], guard := none }) rfl rfl (fun K hK => ?_))
                          go_simp
                          refine hK.out _ _ ?_
                          clear hK K
                          try simp only [Act.put, List.setIfInBounds_toArray, List.set_cons_zero, List.set_cons_succ]
                          refine wpAny_one (i := 21) (o := { dst := some 104, op := Op.nilCheck (Operand.tmp 85), type := 0, pos := "law.go:166", after := #[{ on := 1, ground := Ground.data }, { on := 0, ground := Ground.phase }, { on := 1, ground := Ground.phase }, { on := 2, ground := Ground.phase }, { on := 3, ground := Ground.phase }, { on := 4, ground := Ground.phase }, { on := 5, ground := Ground.phase }, { on := 6, ground := Ground.phase }, { on := 7, ground := Ground.phase }, { on := 8, ground := Ground.phase }, { on := 9, ground := Ground.phase }, { on := 10, ground := Ground.phase }, { on := 11, ground := Ground.phase }, { on := 12, ground := Ground.phase }, { on := 13, ground := Ground.phase }, { on := 14, ground := Ground.textOnly Departure.lateStores }, { on := 15, ground := Ground.textOnly Departure.lateStores }, { on := 16, ground := Ground.textOnly Departure.lateStoresUnsure }, { on := 17, ground := Ground.phase }, { on := 18, ground := Ground.phase }, { on := 19, ground := Ground.phase }, { on := 20, ground := Ground.phase }], guard := none }) (by kernel_rfl) rfl (fun K hK => ?_)
                          go_simp
                          refine hK.out _ _ ?_
                          clear hK K
                          try simp only [Act.put, List.setIfInBounds_toArray, List.set_cons_zero, List.set_cons_succ]
                          refine wpAny_one (i := 22) (o := { dst := some 105, op := Op.fieldAddr 57 (Operand.tmp 104) 4, type := 0, pos := "law.go:166", after := #[{ on := 21, ground := Ground.data }, { on := 0, ground := Ground.phase }, { on := 1, ground := Ground.phase }, { on := 2, ground := Ground.phase }, { on := 3, ground := Ground.phase }, { on := 4, ground := Ground.phase }, { on := 5, ground := Ground.phase }, { on := 6, ground := Ground.phase }, { on := 7, ground := Ground.phase }, { on := 8, ground := Ground.phase }, { on := 9, ground := Ground.phase }, { on := 10, ground := Ground.phase }, { on := 11, ground := Ground.phase }, { on := 12, ground := Ground.phase }, { on := 13, ground := Ground.phase }, { on := 14, ground := Ground.textOnly Departure.lateStores }, { on := 15, ground := Ground.textOnly Departure.lateStores }, { on := 16, ground := Ground.textOnly Departure.lateStoresUnsure }, { on := 17, ground := Ground.phase }, { on := 18, ground := Ground.phase }, { on := 19, ground := Ground.phase }, { on := 20, ground := Ground.phase }], guard := none }) (by kernel_rfl) rfl (fun K hK => ?_)
                          go_simp
                          refine hK.out _ _ ?_
                          clear hK K
                          try simp only [Act.put, List.setIfInBounds_toArray, List.set_cons_zero, List.set_cons_succ]
                          refine wpAny_one (i := 23) (o := { dst := none, op := Op.store 35 (Operand.tmp 105) (Operand.tmp 97), type := 0, pos := "law.go:166", after := #[{ on := 22, ground := Ground.data }, { on := 13, ground := Ground.data }, { on := 20, ground := Ground.chain }, { on := 0, ground := Ground.phase }, { on := 1, ground := Ground.phase }, { on := 2, ground := Ground.phase }, { on := 3, ground := Ground.phase }, { on := 4, ground := Ground.phase }, { on := 5, ground := Ground.phase }, { on := 6, ground := Ground.phase }, { on := 7, ground := Ground.phase }, { on := 8, ground := Ground.phase }, { on := 9, ground := Ground.phase }, { on := 10, ground := Ground.phase }, { on := 11, ground := Ground.phase }, { on := 12, ground := Ground.phase }, { on := 13, ground := Ground.phase }, { on := 14, ground := Ground.textOnly Departure.lateStores }, { on := 15, ground := Ground.textOnly Departure.lateStores }, { on := 16, ground := Ground.textOnly Departure.lateStoresUnsure }, { on := 17, ground := Ground.phase }, { on := 18, ground := Ground.phase }, { on := 19, ground := Ground.phase }, { on := 20, ground := Ground.phase }], guard := none }) (by kernel_rfl) rfl (fun K hK => ?_)
                          go_simp
                          refine hK.out _ _ ?_
                          clear hK K
                          try simp only [Act.put, List.setIfInBounds_toArray, List.set_cons_zero, List.set_cons_succ]
                          refine wpAny_one (i := 24) (o := { dst := some 6, op := Op.assign (Operand.tmp 101), type := 35, pos := "law.go:166", after := #[{ on := 17, ground := Ground.data }, { on := 23, ground := Ground.chain }, { on := 0, ground := Ground.phase }, { on := 1, ground := Ground.phase }, { on := 2, ground := Ground.phase }, { on := 3, ground := Ground.phase }, { on := 4, ground := Ground.phase }, { on := 5, ground := Ground.phase }, { on := 6, ground := Ground.phase }, { on := 7, ground := Ground.phase }, { on := 8, ground := Ground.phase }, { on := 9, ground := Ground.phase }, { on := 10, ground := Ground.phase }, { on := 11, ground := Ground.phase }, { on := 12, ground := Ground.phase }, { on := 13, ground := Ground.phase }, { on := 14, ground := Ground.phase }, { on := 15, ground := Ground.phase }, { on := 16, ground := Ground.phase }, { on := 17, ground := Ground.phase }, { on := 18, ground := Ground.phase }, { on := 19, ground := Ground.phase }, { on := 20, ground := Ground.phase }, { on := 21, ground := Ground.phase }, { on := 22, ground := Ground.phase }, { on := 23, ground := Ground.phase }], guard := none }) (by kernel_rfl) rfl (fun K hK => ?_)
                          go_simp
                          refine hK.out _ _ ?_
                          clear hK K
                          try simp only [Act.put, List.setIfInBounds_toArray, List.set_cons_zero, List.set_cons_succ]
                          refine wpAny_end (by kernel_rfl) ?_ _
                          go_wp2_with fail
                          go_meet
                          exact HM.out
                        refine AllLate.cons (o := { dst := some 100, op := Op.buildSlice 35 1 #[(0, Operand.tmp 99)], type := 35, pos := "law.go:166", after := #[{ on := 15, ground := Ground.data }], guard := none }) rfl rfl (fun K hK => ?_) AllLate.nil
                        go_simp
                        have hM4 := hM3.alloc1 (q : Int) 3
                        refine hK.out _ _ hM4.b ?_
                        clear hK K hM3
                        generalize World.alloc _ _ = W4 at hM4 ⊢
                        generalize W3.heap.size = p16 at hM4 ⊢
                        try simp only [Act.put, List.setIfInBounds_toArray, List.set_cons_zero, List.set_cons_succ]
                        refine wpLate_ready (rs := [13]) (by kernel_rfl) (by simp) ?_
                        refine AllLate.cons (o := { dst := some 97, op := Op.call { callee := Callee.builtin Builtin.append, args := #[Operand.tmp 95, Operand.tmp 96], argTypes := #[35, 35] }, type := 35, pos := "law.go:166", after := #[{ on := 11, ground := Ground.data }, { on := 12, ground := Ground.data }, { on := 7, ground := Ground.chain }], guard := none }) rfl rfl (fun K hK => ?_) AllLate.nil
                        refine hM4.step (i := 1) (by omega) rfl (Operand.tmp 95) (Operand.tmp 96) rfl (v.tk.length) rfl (by rfl) p12 1 (0) (by rfl) (by simp) (by have := htl'; omega) (fun A5 c5 W5 hM5 _ _ => hK.out _ _ hM5.b ?_)
                        clear hK K hM4
                        try simp only [Act.put, List.setIfInBounds_toArray, List.set_cons_zero, List.set_cons_succ]
                        refine wpLate_ready (rs := [17]) (by kernel_rfl) (by simp) ?_
                        refine AllLate.cons (o := { dst := some 101, op := Op.call { callee := Callee.builtin Builtin.append, args := #[Operand.tmp 98, Operand.tmp 100], argTypes := #[35, 35] }, type := 35, pos := "law.go:166", after := #[{ on := 14, ground := Ground.data }, { on := 16, ground := Ground.data }, { on := 13, ground := Ground.chain }], guard := none }) rfl rfl (fun K hK => ?_) AllLate.nil
                        refine hM5.step (i := 2) (by omega) rfl (Operand.tmp 98) (Operand.tmp 100) rfl (ow.length) (List.length_map _) (by rfl) p16 1 ((q : Int)) (by rfl) (by simp) (by have := hol'; omega) (fun A6 c6 W6 hM6 _ _ => hK.out _ _ hM6.b ?_)
                        clear hK K hM5
                        try simp only [Act.put, List.setIfInBounds_toArray, List.set_cons_zero, List.set_cons_succ]
                        refine wpLate_takeP (i := 18) (oi := { dst := some 102, op := Op.nilCheck (Operand.tmp 84), type := 0, pos := "law.go:166", after := #[{ on := 0, ground := Ground.data }, { on := 0, ground := Ground.phase }, { on := 1, ground := Ground.textOnly Departure.lateStores }, { on := 2, ground := Ground.phase }, { on := 3, ground := Ground.phase }, { on := 4, ground := Ground.phase }, { on := 5, ground := Ground.phase }, { on := 6, ground := Ground.phase }, { on := 7, ground := Ground.phase }, { on := 8, ground := Ground.textOnly Departure.lateStores }, { on := 9, ground := Ground.textOnly Departure.lateStoresUnsure }, { on := 10, ground := Ground.textOnly Departure.lateStoresUnsure }, { on := 11, ground := Ground.phase }, { on := 12, ground := Ground.textOnly Departure.lateStoresUnsure }, { on := 13, ground := Ground.phase }, { on := 14, ground := Ground.textOnly Departure.lateStores }, { on := 15, ground := Ground.textOnly Departure.lateStores }, { on := 16, ground := Ground.textOnly Departure.lateStoresUnsure }, { on := 17, ground := Ground.phase }], guard := none }) (v := .pointer (some ⟨T, 0, none⟩)) rfl (by kernel_rfl) (by kernel_rfl) (by kernel_rfl) rfl (fun _ _ _ h => h) (Or.inl ⟨by rfl, fun w => ?_⟩) hM6.b ?_
                        · go_simp
                        try simp only [Act.put, List.setIfInBounds_toArray, List.set_cons_zero, List.set_cons_succ]
                        refine wpLate_takeP (i := 19) (oi := { dst := some 103, op := Op.fieldAddr 57 (Operand.tmp 102) 3, type := 0, pos := "law.go:166", after := #[{ on := 18, ground := Ground.data }, { on := 0, ground := Ground.phase }, { on := 1, ground := Ground.textOnly Departure.lateStores }, { on := 2, ground := Ground.phase }, { on := 3, ground := Ground.phase }, { on := 4, ground := Ground.phase }, { on := 5, ground := Ground.phase }, { on := 6, ground := Ground.phase }, { on := 7, ground := Ground.phase }, { on := 8, ground := Ground.textOnly Departure.lateStores }, { on := 9, ground := Ground.textOnly Departure.lateStoresUnsure }, { on := 10, ground := Ground.textOnly Departure.lateStoresUnsure }, { on := 11, ground := Ground.phase }, { on := 12, ground := Ground.textOnly Departure.lateStoresUnsure }, { on := 13, ground := Ground.phase }, { on := 14, ground := Ground.textOnly Departure.lateStores }, { on := 15, ground := Ground.textOnly Departure.lateStores }, { on := 16, ground := Ground.textOnly Departure.lateStoresUnsure }, { on := 17, ground := Ground.phase }], guard := none }) (v := .pointer (some ⟨T, 12, none⟩)) rfl (by kernel_rfl) (by kernel_rfl) (by kernel_rfl) rfl (fun _ _ _ h => h) (Or.inl ⟨by rfl, fun w => ?_⟩) hM6.b ?_
                        · go_simp
                        try simp only [Act.put, List.setIfInBounds_toArray, List.set_cons_zero, List.set_cons_succ]
                        have y12 : W6.cell? ⟨T, 12, none⟩ = some (.slice gA v.gv.length gc) := hM6.b.cell 12 (by omega)
                        have y13 : W6.cell? ⟨T, 13, none⟩ = some (.slice tA v.tk.length tc) := hM6.b.cell 13 (by omega)
                        have z12 := hM6.b.froz 12 (by omega)
                        have z13 := hM6.b.froz 13 (by omega)
                        have hlt := hM6.b.lt
                        have HM := Lib.hid (hM6.leaf (q := q) rfl rfl rfl HSF.out rfl rfl rfl rfl rfl rfl)
                        clear hM6
                        refine wpLate_ready (rs := [20]) (by kernel_rfl) (by simp) (AllLate.last (o := { dst := none, op := Op.store 35 (Operand.tmp 103) (Operand.tmp 91), type := 0, pos := "law.go:166", after := #[{ on := 19, ground := Ground.data }, { on := 7, ground := Ground.data }, { on := 17, ground := Ground.chain }, { on := 0, ground := Ground.phase }, { on := 1, ground := Ground.textOnly Departure.lateStores }, { on := 2, ground := Ground.phase }, { on := 3, ground := Ground.phase }, { on := 4, ground := Ground.phase }, { on := 5, ground := Ground.phase }, { on := 6, ground := Ground.phase }, { on := 7, ground := Ground.phase }, { on := 8, ground := Ground.textOnly Departure.lateStores }, { on := 9, ground := Ground.textOnly Departure.lateStoresUnsure }, { on := 10, ground := Ground.textOnly Departure.lateStoresUnsure }, { on := 11, ground := Ground.phase }, { on := 12, ground := Ground.textOnly Departure.lateStoresUnsure }, { on := 13, ground := Ground.phase }, { on := 14, ground := Ground.textOnly Departure.lateStores }, { on := 15, ground := Ground.textOnly Departure.lateStores }, { on := 16, ground := Ground.textOnly Departure.lateStoresUnsure }, { on := 17, ground := Ground.phase }], guard := none }) rfl rfl (fun K hK => ?_))
                        go_simp
                        refine hK.out _ _ ?_
                        clear hK K
                        try simp only [Act.put, List.setIfInBounds_toArray, List.set_cons_zero, List.set_cons_succ]
                        refine wpAny_one (i := 21) (o := { dst := some 104, op := Op.nilCheck (Operand.tmp 85), type := 0, pos := "law.go:166", after := #[{ on := 1, ground := Ground.data }, { on := 0, ground := Ground.phase }, { on := 1, ground := Ground.phase }, { on := 2, ground := Ground.phase }, { on := 3, ground := Ground.phase }, { on := 4, ground := Ground.phase }, { on := 5, ground := Ground.phase }, { on := 6, ground := Ground.phase }, { on := 7, ground := Ground.phase }, { on := 8, ground := Ground.phase }, { on := 9, ground := Ground.phase }, { on := 10, ground := Ground.phase }, { on := 11, ground := Ground.phase }, { on := 12, ground := Ground.phase }, { on := 13, ground := Ground.phase }, { on := 14, ground := Ground.textOnly Departure.lateStores }, { on := 15, ground := Ground.textOnly Departure.lateStores }, { on := 16, ground := Ground.textOnly Departure.lateStoresUnsure }, { on := 17, ground := Ground.phase }, { on := 18, ground := Ground.phase }, { on := 19, ground := Ground.phase }, { on := 20, ground := Ground.phase }], guard := none }) (by kernel_rfl) rfl (fun K hK => ?_)
                        go_simp
                        refine hK.out _ _ ?_
                        clear hK K
                        try simp only [Act.put, List.setIfInBounds_toArray, List.set_cons_zero, List.set_cons_succ]
                        refine wpAny_one (i := 22) (o := { dst := some 105, op := Op.fieldAddr 57 (Operand.tmp 104) 4, type := 0, pos := "law.go:166", after := #[{ on := 21, ground := Ground.data }, { on := 0, ground := Ground.phase }, { on := 1, ground := Ground.phase }, { on := 2, ground := Ground.phase }, { on := 3, ground := Ground.phase }, { on := 4, ground := Ground.phase }, { on := 5, ground := Ground.phase }, { on := 6, ground := Ground.phase }, { on := 7, ground := Ground.phase }, { on := 8, ground := Ground.phase }, { on := 9, ground := Ground.phase }, { on := 10, ground := Ground.phase }, { on := 11, ground := Ground.phase }, { on := 12, ground := Ground.phase }, { on := 13, ground := Ground.phase }, { on := 14, ground := Ground.textOnly Departure.lateStores }, { on := 15, ground := Ground.textOnly Departure.lateStores }, { on := 16, ground := Ground.textOnly Departure.lateStoresUnsure }, { on := 17, ground := Ground.phase }, { on := 18, ground := Ground.phase }, { on := 19, ground := Ground.phase }, { on := 20, ground := Ground.phase }], guard := none }) (by kernel_rfl) rfl (fun K hK => ?_)
                        go_simp
                        refine hK.out _ _ ?_
                        clear hK K
                        try simp only [Act.put, List.setIfInBounds_toArray, List.set_cons_zero, List.set_cons_succ]
                        refine wpAny_one (i := 23) (o := { dst := none, op := Op.store 35 (Operand.tmp 105) (Operand.tmp 97), type := 0, pos := "law.go:166", after := #[{ on := 22, ground := Ground.data }, { on := 13, ground := Ground.data }, { on := 20, ground := Ground.chain }, { on := 0, ground := Ground.phase }, { on := 1, ground := Ground.phase }, { on := 2, ground := Ground.phase }, { on := 3, ground := Ground.phase }, { on := 4, ground := Ground.phase }, { on := 5, ground := Ground.phase }, { on := 6, ground := Ground.phase }, { on := 7, ground := Ground.phase }, { on := 8, ground := Ground.phase }, { on := 9, ground := Ground.phase }, { on := 10, ground := Ground.phase }, { on := 11, ground := Ground.phase }, { on := 12, ground := Ground.phase }, { on := 13, ground := Ground.phase }, { on := 14, ground := Ground.textOnly Departure.lateStores }, { on := 15, ground := Ground.textOnly Departure.lateStores }, { on := 16, ground := Ground.textOnly Departure.lateStoresUnsure }, { on := 17, ground := Ground.phase }, { on := 18, ground := Ground.phase }, { on := 19, ground := Ground.phase }, { on := 20, ground := Ground.phase }], guard := none }) (by kernel_rfl) rfl (fun K hK => ?_)
                        go_simp
                        refine hK.out _ _ ?_
                        clear hK K
                        try simp only [Act.put, List.setIfInBounds_toArray, List.set_cons_zero, List.set_cons_succ]
                        refine wpAny_one (i := 24) (o := { dst := some 6, op := Op.assign (Operand.tmp 101), type := 35, pos := "law.go:166", after := #[{ on := 17, ground := Ground.data }, { on := 23, ground := Ground.chain }, { on := 0, ground := Ground.phase }, { on := 1, ground := Ground.phase }, { on := 2, ground := Ground.phase }, { on := 3, ground := Ground.phase }, { on := 4, ground := Ground.phase }, { on := 5, ground := Ground.phase }, { on := 6, ground := Ground.phase }, { on := 7, ground := Ground.phase }, { on := 8, ground := Ground.phase }, { on := 9, ground := Ground.phase }, { on := 10, ground := Ground.phase }, { on := 11, ground := Ground.phase }, { on := 12, ground := Ground.phase }, { on := 13, ground := Ground.phase }, { on := 14, ground := Ground.phase }, { on := 15, ground := Ground.phase }, { on := 16, ground := Ground.phase }, { on := 17, ground := Ground.phase }, { on := 18, ground := Ground.phase }, { on := 19, ground := Ground.phase }, { on := 20, ground := Ground.phase }, { on := 21, ground := Ground.phase }, { on := 22, ground := Ground.phase }, { on := 23, ground := Ground.phase }], guard := none }) (by kernel_rfl) rfl (fun K hK => ?_)
                        go_simp
                        refine hK.out _ _ ?_
                        clear hK K
                        try simp only [Act.put, List.setIfInBounds_toArray, List.set_cons_zero, List.set_cons_succ]
                        refine wpAny_end (by kernel_rfl) ?_ _
                        go_wp2_with fail
                        go_meet
                        exact HM.out
                      refine AllLate.cons (o := { dst := some 100, op := Op.buildSlice 35 1 #[(0, Operand.tmp 99)], type := 35, pos := "law.go:166", after := #[{ on := 15, ground := Ground.data }], guard := none }) rfl rfl (fun K hK => ?_) AllLate.nil
                      go_simp
                      have hM3 := hM2.alloc1 (q : Int) 3
                      refine hK.out _ _ hM3.b ?_
                      clear hK K hM2
                      generalize World.alloc _ _ = W3 at hM3 ⊢
                      generalize W2.heap.size = p16 at hM3 ⊢
                      try simp only [Act.put, List.setIfInBounds_toArray, List.set_cons_zero, List.set_cons_succ]
                      refine wpLate_ready (rs := [7]) (by kernel_rfl) (by simp) ?_
                      refine AllLate.cons (o := { dst := some 91, op := Op.call { callee := Callee.builtin Builtin.append, args := #[Operand.tmp 89, Operand.tmp 90], argTypes := #[35, 35] }, type := 35, pos := "law.go:166", after := #[{ on := 5, ground := Ground.data }, { on := 6, ground := Ground.data }], guard := none }) rfl rfl (fun K hK => ?_) AllLate.nil
                      refine hM3.step (i := 0) (by omega) rfl (Operand.tmp 89) (Operand.tmp 90) rfl (v.gv.length) rfl (by rfl) p6 1 (0) (by rfl) (by simp) (by have := hgl'; omega) (fun A4 c4 W4 hM4 _ _ => hK.out _ _ hM4.b ?_)
                      clear hK K hM3
                      try simp only [Act.put, List.setIfInBounds_toArray, List.set_cons_zero, List.set_cons_succ]
                      refine wpLate_ready (rs := [13]) (by kernel_rfl) (by simp) ?_
                      refine AllLate.cons (o := { dst := some 97, op := Op.call { callee := Callee.builtin Builtin.append, args := #[Operand.tmp 95, Operand.tmp 96], argTypes := #[35, 35] }, type := 35, pos := "law.go:166", after := #[{ on := 11, ground := Ground.data }, { on := 12, ground := Ground.data }, { on := 7, ground := Ground.chain }], guard := none }) rfl rfl (fun K hK => ?_) AllLate.nil
                      refine hM4.step (i := 1) (by omega) rfl (Operand.tmp 95) (Operand.tmp 96) rfl (v.tk.length) rfl (by rfl) p12 1 (0) (by rfl) (by simp) (by have := htl'; omega) (fun A5 c5 W5 hM5 _ _ => hK.out _ _ hM5.b ?_)
                      clear hK K hM4
                      try simp only [Act.put, List.setIfInBounds_toArray, List.set_cons_zero, List.set_cons_succ]
                      refine wpLate_ready (rs := [17]) (by kernel_rfl) (by simp) ?_
                      refine AllLate.cons (o := { dst := some 101, op := Op.call { callee := Callee.builtin Builtin.append, args := #[Operand.tmp 98, Operand.tmp 100], argTypes := #[35, 35] }, type := 35, pos := "law.go:166", after := #[{ on := 14, ground := Ground.data }, { on := 16, ground := Ground.data }, { on := 13, ground := Ground.chain }], guard := none }) rfl rfl (fun K hK => ?_) AllLate.nil
                      refine hM5.step (i := 2) (by omega) rfl (Operand.tmp 98) (Operand.tmp 100) rfl (ow.length) (List.length_map _) (by rfl) p16 1 ((q : Int)) (by rfl) (by simp) (by have := hol'; omega) (fun A6 c6 W6 hM6 _ _ => hK.out _ _ hM6.b ?_)
                      clear hK K hM5
                      try simp only [Act.put, List.setIfInBounds_toArray, List.set_cons_zero, List.set_cons_succ]
                      refine wpLate_takeP (i := 18) (oi := { dst := some 102, op := Op.nilCheck (Operand.tmp 84), type := 0, pos := "law.go:166", after := #[{ on := 0, ground := Ground.data }, { on := 0, ground := Ground.phase }, { on := 1, ground := Ground.textOnly Departure.lateStores }, { on := 2, ground := Ground.phase }, { on := 3, ground := Ground.phase }, { on := 4, ground := Ground.phase }, { on := 5, ground := Ground.phase }, { on := 6, ground := Ground.phase }, { on := 7, ground := Ground.phase }, { on := 8, ground := Ground.textOnly Departure.lateStores }, { on := 9, ground := Ground.textOnly Departure.lateStoresUnsure }, { on := 10, ground := Ground.textOnly Departure.lateStoresUnsure }, { on := 11, ground := Ground.phase }, { on := 12, ground := Ground.textOnly Departure.lateStoresUnsure }, { on := 13, ground := Ground.phase }, { on := 14, ground := Ground.textOnly Departure.lateStores }, { on := 15, ground := Ground.textOnly Departure.lateStores }, { on := 16, ground := Ground.textOnly Departure.lateStoresUnsure }, { on := 17, ground := Ground.phase }], guard := none }) (v := .pointer (some ⟨T, 0, none⟩)) rfl (by kernel_rfl) (by kernel_rfl) (by kernel_rfl) rfl (fun _ _ _ h => h) (Or.inl ⟨by rfl, fun w => ?_⟩) hM6.b ?_
                      · go_simp
                      try simp only [Act.put, List.setIfInBounds_toArray, List.set_cons_zero, List.set_cons_succ]
                      refine wpLate_takeP (i := 19) (oi := { dst := some 103, op := Op.fieldAddr 57 (Operand.tmp 102) 3, type := 0, pos := "law.go:166", after := #[{ on := 18, ground := Ground.data }, { on := 0, ground := Ground.phase }, { on := 1, ground := Ground.textOnly Departure.lateStores }, { on := 2, ground := Ground.phase }, { on := 3, ground := Ground.phase }, { on := 4, ground := Ground.phase }, { on := 5, ground := Ground.phase }, { on := 6, ground := Ground.phase }, { on := 7, ground := Ground.phase }, { on := 8, ground := Ground.textOnly Departure.lateStores }, { on := 9, ground := Ground.textOnly Departure.lateStoresUnsure }, { on := 10, ground := Ground.textOnly Departure.lateStoresUnsure }, { on := 11, ground := Ground.phase }, { on := 12, ground := Ground.textOnly Departure.lateStoresUnsure }, { on := 13, ground := Ground.phase }, { on := 14, ground := Ground.textOnly Departure.lateStores }, { on := 15, ground := Ground.textOnly Departure.lateStores }, { on := 16, ground := Ground.textOnly Departure.lateStoresUnsure }, { on := 17, ground := Ground.phase }], guard := none }) (v := .pointer (some ⟨T, 12, none⟩)) rfl (by kernel_rfl) (by kernel_rfl) (by kernel_rfl) rfl (fun _ _ _ h => h) (Or.inl ⟨by rfl, fun w => ?_⟩) hM6.b ?_
                      · go_simp
                      try simp only [Act.put, List.setIfInBounds_toArray, List.set_cons_zero, List.set_cons_succ]
                      have y12 : W6.cell? ⟨T, 12, none⟩ = some (.slice gA v.gv.length gc) := hM6.b.cell 12 (by omega)
                      have y13 : W6.cell? ⟨T, 13, none⟩ = some (.slice tA v.tk.length tc) := hM6.b.cell 13 (by omega)
                      have z12 := hM6.b.froz 12 (by omega)
                      have z13 := hM6.b.froz 13 (by omega)
                      have hlt := hM6.b.lt
                      have HM := Lib.hid (hM6.leaf (q := q) rfl rfl rfl HSF.out rfl rfl rfl rfl rfl rfl)
                      clear hM6
                      refine wpLate_ready (rs := [20]) (by kernel_rfl) (by simp) (AllLate.last (o := { dst := none, op := Op.store 35 (Operand.tmp 103) (Operand.tmp 91), type := 0, pos := "law.go:166", after := #[{ on := 19, ground := Ground.data }, { on := 7, ground := Ground.data }, { on := 17, ground := Ground.chain }, { on := 0, ground := Ground.phase }, { on := 1, ground := Ground.textOnly Departure.lateStores }, { on := 2, ground := Ground.phase }, { on := 3, ground := Ground.phase }, { on := 4, ground := Ground.phase }, { on := 5, ground := Ground.phase }, { on := 6, ground := Ground.phase }, { on := 7, ground := Ground.phase }, { on := 8, ground := Ground.textOnly Departure.lateStores }, { on := 9, ground := Ground.textOnly Departure.lateStoresUnsure }, { on := 10, ground := Ground.textOnly Departure.lateStoresUnsure }, { on := 11, ground := Ground.phase }, { on := 12, ground := Ground.textOnly Departure.lateStoresUnsure }, { on := 13, ground := Ground.phase }, { on := 14, ground := Ground.textOnly Departure.lateStores }, { on := 15, ground := Ground.textOnly Departure.lateStores }, { on := 16, ground := Ground.textOnly Departure.lateStoresUnsure }, { on := 17, ground := Ground.phase }], guard := none }) rfl rfl (fun K hK => ?_))
                      go_simp
                      refine hK.out _ _ ?_
                      clear hK K
                      try simp only [Act.put, List.setIfInBounds_toArray, List.set_cons_zero, List.set_cons_succ]
                      refine wpAny_one (i := 21) (o := { dst := some 104, op := Op.nilCheck (Operand.tmp 85), type := 0, pos := "law.go:166", after := #[{ on := 1, ground := Ground.data }, { on := 0, ground := Ground.phase }, { on := 1, ground := Ground.phase }, { on := 2, ground := Ground.phase }, { on := 3, ground := Ground.phase }, { on := 4, ground := Ground.phase }, { on := 5, ground := Ground.phase }, { on := 6, ground := Ground.phase }, { on := 7, ground := Ground.phase }, { on := 8, ground := Ground.phase }, { on := 9, ground := Ground.phase }, { on := 10, ground := Ground.phase }, { on := 11, ground := Ground.phase }, { on := 12, ground := Ground.phase }, { on := 13, ground := Ground.phase }, { on := 14, ground := Ground.textOnly Departure.lateStores }, { on := 15, ground := Ground.textOnly Departure.lateStores }, { on := 16, ground := Ground.textOnly Departure.lateStoresUnsure }, { on := 17, ground := Ground.phase }, { on := 18, ground := Ground.phase }, { on := 19, ground := Ground.phase }, { on := 20, ground := Ground.phase }], guard := none }) (by kernel_rfl) rfl (fun K hK => ?_)
                      go_simp
                      refine hK.out _ _ ?_
                      clear hK K
                      try simp only [Act.put, List.setIfInBounds_toArray, List.set_cons_zero, List.set_cons_succ]
                      refine wpAny_one (i := 22) (o := { dst := some 105, op := Op.fieldAddr 57 (Operand.tmp 104) 4, type := 0, pos := "law.go:166", after := #[{ on := 21, ground := Ground.data }, { on := 0, ground := Ground.phase }, { on := 1, ground := Ground.phase }, { on := 2, ground := Ground.phase }, { on := 3, ground := Ground.phase }, { on := 4, ground := Ground.phase }, { on := 5, ground := Ground.phase }, { on := 6, ground := Ground.phase }, { on := 7, ground := Ground.phase }, { on := 8, ground := Ground.phase }, { on := 9, ground := Ground.phase }, { on := 10, ground := Ground.phase }, { on := 11, ground := Ground.phase }, { on := 12, ground := Ground.phase }, { on := 13, ground := Ground.phase }, { on := 14, ground := Ground.textOnly Departure.lateStores }, { on := 15, ground := Ground.textOnly Departure.lateStores }, { on := 16, ground := Ground.textOnly Departure.lateStoresUnsure }, { on := 17, ground := Ground.phase }, { on := 18, ground := Ground.phase }, { on := 19, ground := Ground.phase }, { on := 20, ground := Ground.phase }], guard := none }) (by kernel_rfl) rfl (fun K hK => ?_)
                      go_simp
                      refine hK.out _ _ ?_
                      clear hK K
                      try simp only [Act.put, List.setIfInBounds_toArray, List.set_cons_zero, List.set_cons_succ]
                      refine wpAny_one (i := 23) (o := { dst := none, op := Op.store 35 (Operand.tmp 105) (Operand.tmp 97), type := 0, pos := "law.go:166", after := #[{ on := 22, ground := Ground.data }, { on := 13, ground := Ground.data }, { on := 20, ground := Ground.chain }, { on := 0, ground := Ground.phase }, { on := 1, ground := Ground.phase }, { on := 2, ground := Ground.phase }, { on := 3, ground := Ground.phase }, { on := 4, ground := Ground.phase }, { on := 5, ground := Ground.phase }, { on := 6, ground := Ground.phase }, { on := 7, ground := Ground.phase }, { on := 8, ground := Ground.phase }, { on := 9, ground := Ground.phase }, { on := 10, ground := Ground.phase }, { on := 11, ground := Ground.phase }, { on := 12, ground := Ground.phase }, { on := 13, ground := Ground.phase }, { on := 14, ground := Ground.textOnly Departure.lateStores }, { on := 15, ground := Ground.textOnly Departure.lateStores }, { on := 16, ground := Ground.textOnly Departure.lateStoresUnsure }, { on := 17, ground := Ground.phase }, { on := 18, ground := Ground.phase }, { on := 19, ground := Ground.phase }, { on := 20, ground := Ground.phase }], guard := none }) (by kernel_rfl) rfl (fun K hK => ?_)
                      go_simp
                      refine hK.out _ _ ?_
                      clear hK K
                      try simp only [Act.put, List.setIfInBounds_toArray, List.set_cons_zero, List.set_cons_succ]
                      refine wpAny_one (i := 24) (o := { dst := some 6, op := Op.assign (Operand.tmp 101), type := 35, pos := "law.go:166", after := #[{ on := 17, ground := Ground.data }, { on := 23, ground := Ground.chain }, { on := 0, ground := Ground.phase }, { on := 1, ground := Ground.phase }, { on := 2, ground := Ground.phase }, { on := 3, ground := Ground.phase }, { on := 4, ground := Ground.phase }, { on := 5, ground := Ground.phase }, { on := 6, ground := Ground.phase }, { on := 7, ground := Ground.phase }, { on := 8, ground := Ground.phase }, { on := 9, ground := Ground.phase }, { on := 10, ground := Ground.phase }, { on := 11, ground := Ground.phase }, { on := 12, ground := Ground.phase }, { on := 13, ground := Ground.phase }, { on := 14, ground := Ground.phase }, { on := 15, ground := Ground.phase }, { on := 16, ground := Ground.phase }, { on := 17, ground := Ground.phase }, { on := 18, ground := Ground.phase }, { on := 19, ground := Ground.phase }, { on := 20, ground := Ground.phase }, { on := 21, ground := Ground.phase }, { on := 22, ground := Ground.phase }, { on := 23, ground := Ground.phase }], guard := none }) (by kernel_rfl) rfl (fun K hK => ?_)
                      go_simp
                      refine hK.out _ _ ?_
                      clear hK K
                      try simp only [Act.put, List.setIfInBounds_toArray, List.set_cons_zero, List.set_cons_succ]
                      refine wpAny_end (by kernel_rfl) ?_ _
                      go_wp2_with fail
                      go_meet
                      exact HM.out
                    refine AllLate.cons (o := { dst := some 100, op := Op.buildSlice 35 1 #[(0, Operand.tmp 99)], type := 35, pos := "law.go:166", after := #[{ on := 15, ground := Ground.data }], guard := none }) rfl rfl (fun K hK => ?_) AllLate.nil
                    go_simp
                    have hM2 := hM1.alloc1 (q : Int) 3
                    refine hK.out _ _ hM2.b ?_
                    clear hK K hM1
                    generalize World.alloc _ _ = W2 at hM2 ⊢
                    generalize W1.heap.size = p16 at hM2 ⊢
                    try simp only [Act.put, List.setIfInBounds_toArray, List.set_cons_zero, List.set_cons_succ]
                    refine wpLate_ready (rs := [6]) (by kernel_rfl) (by simp) ?_
                    refine AllLate.cons (o := { dst := some 90, op := Op.buildSlice 35 1 #[(0, Operand.const (Value.int IntKind.i64 0))], type := 35, pos := "law.go:166", after := #[], guard := none }) rfl rfl (fun K hK => ?_) AllLate.nil
                    go_simp
                    have hM3 := hM2.alloc1 0 3
                    refine hK.out _ _ hM3.b ?_
                    clear hK K hM2
                    generalize World.alloc _ _ = W3 at hM3 ⊢
                    generalize W2.heap.size = p6 at hM3 ⊢
                    try simp only [Act.put, List.setIfInBounds_toArray, List.set_cons_zero, List.set_cons_succ]
                    refine wpLate_ready (rs := [7]) (by kernel_rfl) (by simp) ?_
                    refine AllLate.cons (o := { dst := some 91, op := Op.call { callee := Callee.builtin Builtin.append, args := #[Operand.tmp 89, Operand.tmp 90], argTypes := #[35, 35] }, type := 35, pos := "law.go:166", after := #[{ on := 5, ground := Ground.data }, { on := 6, ground := Ground.data }], guard := none }) rfl rfl (fun K hK => ?_) AllLate.nil
                    refine hM3.step (i := 0) (by omega) rfl (Operand.tmp 89) (Operand.tmp 90) rfl (v.gv.length) rfl (by rfl) p6 1 (0) (by rfl) (by simp) (by have := hgl'; omega) (fun A4 c4 W4 hM4 _ _ => hK.out _ _ hM4.b ?_)
                    clear hK K hM3
                    try simp only [Act.put, List.setIfInBounds_toArray, List.set_cons_zero, List.set_cons_succ]
                    refine wpLate_ready (rs := [13]) (by kernel_rfl) (by simp) ?_
                    refine AllLate.cons (o := { dst := some 97, op := Op.call { callee := Callee.builtin Builtin.append, args := #[Operand.tmp 95, Operand.tmp 96], argTypes := #[35, 35] }, type := 35, pos := "law.go:166", after := #[{ on := 11, ground := Ground.data }, { on := 12, ground := Ground.data }, { on := 7, ground := Ground.chain }], guard := none }) rfl rfl (fun K hK => ?_) AllLate.nil
                    refine hM4.step (i := 1) (by omega) rfl (Operand.tmp 95) (Operand.tmp 96) rfl (v.tk.length) rfl (by rfl) p12 1 (0) (by rfl) (by simp) (by have := htl'; omega) (fun A5 c5 W5 hM5 _ _ => hK.out _ _ hM5.b ?_)
                    clear hK K hM4
                    try simp only [Act.put, List.setIfInBounds_toArray, List.set_cons_zero, List.set_cons_succ]
                    refine wpLate_ready (rs := [17]) (by kernel_rfl) (by simp) ?_
                    refine AllLate.cons (o := { dst := some 101, op := Op.call { callee := Callee.builtin Builtin.append, args := #[Operand.tmp 98, Operand.tmp 100], argTypes := #[35, 35] }, type := 35, pos := "law.go:166", after := #[{ on := 14, ground := Ground.data }, { on := 16, ground := Ground.data }, { on := 13, ground := Ground.chain }], guard := none }) rfl rfl (fun K hK => ?_) AllLate.nil
                    refine hM5.step (i := 2) (by omega) rfl (Operand.tmp 98) (Operand.tmp 100) rfl (ow.length) (List.length_map _) (by rfl) p16 1 ((q : Int)) (by rfl) (by simp) (by have := hol'; omega) (fun A6 c6 W6 hM6 _ _ => hK.out _ _ hM6.b ?_)
                    clear hK K hM5
                    try simp only [Act.put, List.setIfInBounds_toArray, List.set_cons_zero, List.set_cons_succ]
                    refine wpLate_takeP (i := 18) (oi := { dst := some 102, op := Op.nilCheck (Operand.tmp 84), type := 0, pos := "law.go:166", after := #[{ on := 0, ground := Ground.data }, { on := 0, ground := Ground.phase }, { on := 1, ground := Ground.textOnly Departure.lateStores }, { on := 2, ground := Ground.phase }, { on := 3, ground := Ground.phase }, { on := 4, ground := Ground.phase }, { on := 5, ground := Ground.phase }, { on := 6, ground := Ground.phase }, { on := 7, ground := Ground.phase }, { on := 8, ground := Ground.textOnly Departure.lateStores }, { on := 9, ground := Ground.textOnly Departure.lateStoresUnsure }, { on := 10, ground := Ground.textOnly Departure.lateStoresUnsure }, { on := 11, ground := Ground.phase }, { on := 12, ground := Ground.textOnly Departure.lateStoresUnsure }, { on := 13, ground := Ground.phase }, { on := 14, ground := Ground.textOnly Departure.lateStores }, { on := 15, ground := Ground.textOnly Departure.lateStores }, { on := 16, ground := Ground.textOnly Departure.lateStoresUnsure }, { on := 17, ground := Ground.phase }], guard := none }) (v := .pointer (some ⟨T, 0, none⟩)) rfl (by kernel_rfl) (by kernel_rfl) (by kernel_rfl) rfl (fun _ _ _ h => h) (Or.inl ⟨by rfl, fun w => ?_⟩) hM6.b ?_
                    · go_simp
                    try simp only [Act.put, List.setIfInBounds_toArray, List.set_cons_zero, List.set_cons_succ]
                    refine wpLate_takeP (i := 19) (oi := { dst := some 103, op := Op.fieldAddr 57 (Operand.tmp 102) 3, type := 0, pos := "law.go:166", after := #[{ on := 18, ground := Ground.data }, { on := 0, ground := Ground.phase }, { on := 1, ground := Ground.textOnly Departure.lateStores }, { on := 2, ground := Ground.phase }, { on := 3, ground := Ground.phase }, { on := 4, ground := Ground.phase }, { on := 5, ground := Ground.phase }, { on := 6, ground := Ground.phase }, { on := 7, ground := Ground.phase }, { on := 8, ground := Ground.textOnly Departure.lateStores }, { on := 9, ground := Ground.textOnly Departure.lateStoresUnsure }, { on := 10, ground := Ground.textOnly Departure.lateStoresUnsure }, { on := 11, ground := Ground.phase }, { on := 12, ground := Ground.textOnly Departure.lateStoresUnsure }, { on := 13, ground := Ground.phase }, { on := 14, ground := Ground.textOnly Departure.lateStores }, { on := 15, ground := Ground.textOnly Departure.lateStores }, { on := 16, ground := Ground.textOnly Departure.lateStoresUnsure }, { on := 17, ground := Ground.phase }], guard := none }) (v := .pointer (some ⟨T, 12, none⟩)) rfl (by kernel_rfl) (by kernel_rfl) (by kernel_rfl) rfl (fun _ _ _ h => h) (Or.inl ⟨by rfl, fun w => ?_⟩) hM6.b ?_
                    · go_simp
                    try simp only [Act.put, List.setIfInBounds_toArray, List.set_cons_zero, List.set_cons_succ]
                    have y12 : W6.cell? ⟨T, 12, none⟩ = some (.slice gA v.gv.length gc) := hM6.b.cell 12 (by omega)
                    have y13 : W6.cell? ⟨T, 13, none⟩ = some (.slice tA v.tk.length tc) := hM6.b.cell 13 (by omega)
                    have z12 := hM6.b.froz 12 (by omega)
                    have z13 := hM6.b.froz 13 (by omega)
                    have hlt := hM6.b.lt
                    have HM := Lib.hid (hM6.leaf (q := q) rfl rfl rfl HSF.out rfl rfl rfl rfl rfl rfl)
                    clear hM6
                    refine wpLate_ready (rs := [20]) (by kernel_rfl) (by simp) (AllLate.last (o := { dst := none, op := Op.store 35 (Operand.tmp 103) (Operand.tmp 91), type := 0, pos := "law.go:166", after := #[{ on := 19, ground := Ground.data }, { on := 7, ground := Ground.data }, { on := 17, ground := Ground.chain }, { on := 0, ground := Ground.phase }, { on := 1, ground := Ground.textOnly Departure.lateStores }, { on := 2, ground := Ground.phase }, { on := 3, ground := Ground.phase }, { on := 4, ground := Ground.phase }, { on := 5, ground := Ground.phase }, { on := 6, ground := Ground.phase }, { on := 7, ground := Ground.phase }, { on := 8, ground := Ground.textOnly Departure.lateStores }, { on := 9, ground := Ground.textOnly Departure.lateStoresUnsure }, { on := 10, ground := Ground.textOnly Departure.lateStoresUnsure }, { on := 11, ground := Ground.phase }, { on := 12, ground := Ground.textOnly Departure.lateStoresUnsure }, { on := 13, ground := Ground.phase }, { on := 14, ground := Ground.textOnly Departure.lateStores }, { on := 15, ground := Ground.textOnly Departure.lateStores }, { on := 16, ground := Ground.textOnly Departure.lateStoresUnsure }, { on := 17, ground := Ground.phase }], guard := none }) rfl rfl (fun K hK => ?_))
                    go_simp
                    refine hK.out _ _ ?_
                    clear hK K
                    try simp only [Act.put, List.setIfInBounds_toArray, List.set_cons_zero, List.set_cons_succ]
                    refine wpAny_one (i := 21) (o := { dst := some 104, op := Op.nilCheck (Operand.tmp 85), type := 0, pos := "law.go:166", after := #[{ on := 1, ground := Ground.data }, { on := 0, ground := Ground.phase }, { on := 1, ground := Ground.phase }, { on := 2, ground := Ground.phase }, { on := 3, ground := Ground.phase }, { on := 4, ground := Ground.phase }, { on := 5, ground := Ground.phase }, { on := 6, ground := Ground.phase }, { on := 7, ground := Ground.phase }, { on := 8, ground := Ground.phase }, { on := 9, ground := Ground.phase }, { on := 10, ground := Ground.phase }, { on := 11, ground := Ground.phase }, { on := 12, ground := Ground.phase }, { on := 13, ground := Ground.phase }, { on := 14, ground := Ground.textOnly Departure.lateStores }, { on := 15, ground := Ground.textOnly Departure.lateStores }, { on := 16, ground := Ground.textOnly Departure.lateStoresUnsure }, { on := 17, ground := Ground.phase }, { on := 18, ground := Ground.phase }, { on := 19, ground := Ground.phase }, { on := 20, ground := Ground.phase }], guard := none }) (by kernel_rfl) rfl (fun K hK => ?_)
                    go_simp
                    refine hK.out _ _ ?_
                    clear hK K
                    try simp only [Act.put, List.setIfInBounds_toArray, List.set_cons_zero, List.set_cons_succ]
                    refine wpAny_one (i := 22) (o := { dst := some 105, op := Op.fieldAddr 57 (Operand.tmp 104) 4, type := 0, pos := "law.go:166", after := #[{ on := 21, ground := Ground.data }, { on := 0, ground := Ground.phase }, { on := 1, ground := Ground.phase }, { on := 2, ground := Ground.phase }, { on := 3, ground := Ground.phase }, { on := 4, ground := Ground.phase }, { on := 5, ground := Ground.phase }, { on := 6, ground := Ground.phase }, { on := 7, ground := Ground.phase }, { on := 8, ground := Ground.phase }, { on := 9, ground := Ground.phase }, { on := 10, ground := Ground.phase }, { on := 11, ground := Ground.phase }, { on := 12, ground := Ground.phase }, { on := 13, ground := Ground.phase }, { on := 14, ground := Ground.textOnly Departure.lateStores }, { on := 15, ground := Ground.textOnly Departure.lateStores }, { on := 16, ground := Ground.textOnly Departure.lateStoresUnsure }, { on := 17, ground := Ground.phase }, { on := 18, ground := Ground.phase }, { on := 19, ground := Ground.phase }, { on := 20, ground := Ground.phase }], guard := none }) (by kernel_rfl) rfl (fun K hK => ?_)
                    go_simp
                    refine hK.out _ _ ?_
                    clear hK K
                    try simp only [Act.put, List.setIfInBounds_toArray, List.set_cons_zero, List.set_cons_succ]
                    refine wpAny_one (i := 23) (o := { dst := none, op := Op.store 35 (Operand.tmp 105) (Operand.tmp 97), type := 0, pos := "law.go:166", after := #[{ on := 22, ground := Ground.data }, { on := 13, ground := Ground.data }, { on := 20, ground := Ground.chain }, { on := 0, ground := Ground.phase }, { on := 1, ground := Ground.phase }, { on := 2, ground := Ground.phase }, { on := 3, ground := Ground.phase }, { on := 4, ground := Ground.phase }, { on := 5, ground := Ground.phase }, { on := 6, ground := Ground.phase }, { on := 7, ground := Ground.phase }, { on := 8, ground := Ground.phase }, { on := 9, ground := Ground.phase }, { on := 10, ground := Ground.phase }, { on := 11, ground := Ground.phase }, { on := 12, ground := Ground.phase }, { on := 13, ground := Ground.phase }, { on := 14, ground := Ground.textOnly Departure.lateStores }, { on := 15, ground := Ground.textOnly Departure.lateStores }, { on := 16, ground := Ground.textOnly Departure.lateStoresUnsure }, { on := 17, ground := Ground.phase }, { on := 18, ground := Ground.phase }, { on := 19, ground := Ground.phase }, { on := 20, ground := Ground.phase }], guard := none }) (by kernel_rfl) rfl (fun K hK => ?_)
                    go_simp
                    refine hK.out _ _ ?_
                    clear hK K
                    try simp only [Act.put, List.setIfInBounds_toArray, List.set_cons_zero, List.set_cons_succ]
                    refine wpAny_one (i := 24) (o := { dst := some 6, op := Op.assign (Operand.tmp 101), type := 35, pos := "law.go:166", after := #[{ on := 17, ground := Ground.data }, { on := 23, ground := Ground.chain }, { on := 0, ground := Ground.phase }, { on := 1, ground := Ground.phase }, { on := 2, ground := Ground.phase }, { on := 3, ground := Ground.phase }, { on := 4, ground := Ground.phase }, { on := 5, ground := Ground.phase }, { on := 6, ground := Ground.phase }, { on := 7, ground := Ground.phase }, { on := 8, ground := Ground.phase }, { on := 9, ground := Ground.phase }, { on := 10, ground := Ground.phase }, { on := 11, ground := Ground.phase }, { on := 12, ground := Ground.phase }, { on := 13, ground := Ground.phase }, { on := 14, ground := Ground.phase }, { on := 15, ground := Ground.phase }, { on := 16, ground := Ground.phase }, { on := 17, ground := Ground.phase }, { on := 18, ground := Ground.phase }, { on := 19, ground := Ground.phase }, { on := 20, ground := Ground.phase }, { on := 21, ground := Ground.phase }, { on := 22, ground := Ground.phase }, { on := 23, ground := Ground.phase }], guard := none }) (by kernel_rfl) rfl (fun K hK => ?_)
                    go_simp
                    refine hK.out _ _ ?_
                    clear hK K
                    try simp only [Act.put, List.setIfInBounds_toArray, List.set_cons_zero, List.set_cons_succ]
                    refine wpAny_end (by kernel_rfl) ?_ _
                    go_wp2_with fail
                    go_meet
                    exact HM.out
                  refine AllLate.cons (o := { dst := some 100, op := Op.buildSlice 35 1 #[(0, Operand.tmp 99)], type := 35, pos := "law.go:166", after := #[{ on := 15, ground := Ground.data }], guard := none }) rfl rfl (fun K hK => ?_) AllLate.nil
                  go_simp
                  have hM1 := hM0.alloc1 (q : Int) 3
                  refine hK.out _ _ hM1.b ?_
                  clear hK K hM0
                  generalize World.alloc _ _ = W1 at hM1 ⊢
                  generalize W0.heap.size = p16 at hM1 ⊢
                  try simp only [Act.put, List.setIfInBounds_toArray, List.set_cons_zero, List.set_cons_succ]
                  refine wpLate_ready (rs := [6, 12]) (by kernel_rfl) (by simp) ?_
                  refine AllLate.cons (o := { dst := some 90, op := Op.buildSlice 35 1 #[(0, Operand.const (Value.int IntKind.i64 0))], type := 35, pos := "law.go:166", after := #[], guard := none }) rfl rfl (fun K hK => ?_) ?_
                  · skip
                    go_simp
                    have hM2 := hM1.alloc1 0 3
                    refine hK.out _ _ hM2.b ?_
                    clear hK K hM1
                    generalize World.alloc _ _ = W2 at hM2 ⊢
                    generalize W1.heap.size = p6 at hM2 ⊢
                    try simp only [Act.put, List.setIfInBounds_toArray, List.set_cons_zero, List.set_cons_succ]
                    refine wpLate_ready (rs := [7, 12]) (by kernel_rfl) (by simp) ?_
                    refine AllLate.cons (o := { dst := some 91, op := Op.call { callee := Callee.builtin Builtin.append, args := #[Operand.tmp 89, Operand.tmp 90], argTypes := #[35, 35] }, type := 35, pos := "law.go:166", after := #[{ on := 5, ground := Ground.data }, { on := 6, ground := Ground.data }], guard := none }) rfl rfl (fun K hK => ?_) ?_
                    · skip
                      refine hM2.step (i := 0) (by omega) rfl (Operand.tmp 89) (Operand.tmp 90) rfl (v.gv.length) rfl (by rfl) p6 1 (0) (by rfl) (by simp) (by have := hgl'; omega) (fun A3 c3 W3 hM3 _ _ => hK.out _ _ hM3.b ?_)
                      clear hK K hM2
                      try simp only [Act.put, List.setIfInBounds_toArray, List.set_cons_zero, List.set_cons_succ]
                      refine wpLate_ready (rs := [12]) (by kernel_rfl) (by simp) ?_
                      refine AllLate.cons (o := { dst := some 96, op := Op.buildSlice 35 1 #[(0, Operand.const (Value.int IntKind.i64 0))], type := 35, pos := "law.go:166", after := #[], guard := none }) rfl rfl (fun K hK => ?_) AllLate.nil
                      go_simp
                      have hM4 := hM3.alloc1 0 3
                      refine hK.out _ _ hM4.b ?_
                      clear hK K hM3
                      generalize World.alloc _ _ = W4 at hM4 ⊢
                      generalize W3.heap.size = p12 at hM4 ⊢
                      try simp only [Act.put, List.setIfInBounds_toArray, List.set_cons_zero, List.set_cons_succ]
                      refine wpLate_ready (rs := [13]) (by kernel_rfl) (by simp) ?_
                      refine AllLate.cons (o := { dst := some 97, op := Op.call { callee := Callee.builtin Builtin.append, args := #[Operand.tmp 95, Operand.tmp 96], argTypes := #[35, 35] }, type := 35, pos := "law.go:166", after := #[{ on := 11, ground := Ground.data }, { on := 12, ground := Ground.data }, { on := 7, ground := Ground.chain }], guard := none }) rfl rfl (fun K hK => ?_) AllLate.nil
                      refine hM4.step (i := 1) (by omega) rfl (Operand.tmp 95) (Operand.tmp 96) rfl (v.tk.length) rfl (by rfl) p12 1 (0) (by rfl) (by simp) (by have := htl'; omega) (fun A5 c5 W5 hM5 _ _ => hK.out _ _ hM5.b ?_)
                      clear hK K hM4
                      try simp only [Act.put, List.setIfInBounds_toArray, List.set_cons_zero, List.set_cons_succ]
                      refine wpLate_ready (rs := [17]) (by kernel_rfl) (by simp) ?_
                      refine AllLate.cons (o := { dst := some 101, op := Op.call { callee := Callee.builtin Builtin.append, args := #[Operand.tmp 98, Operand.tmp 100], argTypes := #[35, 35] }, type := 35, pos := "law.go:166", after := #[{ on := 14, ground := Ground.data }, { on := 16, ground := Ground.data }, { on := 13, ground := Ground.chain }], guard := none }) rfl rfl (fun K hK => ?_) AllLate.nil
                      refine hM5.step (i := 2) (by omega) rfl (Operand.tmp 98) (Operand.tmp 100) rfl (ow.length) (List.length_map _) (by rfl) p16 1 ((q : Int)) (by rfl) (by simp) (by have := hol'; omega) (fun A6 c6 W6 hM6 _ _ => hK.out _ _ hM6.b ?_)
                      clear hK K hM5
                      try simp only [Act.put, List.setIfInBounds_toArray, List.set_cons_zero, List.set_cons_succ]
                      refine wpLate_takeP (i := 18) (oi := { dst := some 102, op := Op.nilCheck (Operand.tmp 84), type := 0, pos := "law.go:166", after := #[{ on := 0, ground := Ground.data }, { on := 0, ground := Ground.phase }, { on := 1, ground := Ground.textOnly Departure.lateStores }, { on := 2, ground := Ground.phase }, { on := 3, ground := Ground.phase }, { on := 4, ground := Ground.phase }, { on := 5, ground := Ground.phase }, { on := 6, ground := Ground.phase }, { on := 7, ground := Ground.phase }, { on := 8, ground := Ground.textOnly Departure.lateStores }, { on := 9, ground := Ground.textOnly Departure.lateStoresUnsure }, { on := 10, ground := Ground.textOnly Departure.lateStoresUnsure }, { on := 11, ground := Ground.phase }, { on := 12, ground := Ground.textOnly Departure.lateStoresUnsure }, { on := 13, ground := Ground.phase }, { on := 14, ground := Ground.textOnly Departure.lateStores }, { on := 15, ground := Ground.textOnly Departure.lateStores }, { on := 16, ground := Ground.textOnly Departure.lateStoresUnsure }, { on := 17, ground := Ground.phase }], guard := none }) (v := .pointer (some ⟨T, 0, none⟩)) rfl (by kernel_rfl) (by kernel_rfl) (by kernel_rfl) rfl (fun _ _ _ h => h) (Or.inl ⟨by rfl, fun w => ?_⟩) hM6.b ?_
                      · go_simp
                      try simp only [Act.put, List.setIfInBounds_toArray, List.set_cons_zero, List.set_cons_succ]
                      refine wpLate_takeP (i := 19) (oi := { dst := some 103, op := Op.fieldAddr 57 (Operand.tmp 102) 3, type := 0, pos := "law.go:166", after := #[{ on := 18, ground := Ground.data }, { on := 0, ground := Ground.phase }, { on := 1, ground := Ground.textOnly Departure.lateStores }, { on := 2, ground := Ground.phase }, { on := 3, ground := Ground.phase }, { on := 4, ground := Ground.phase }, { on := 5, ground := Ground.phase }, { on := 6, ground := Ground.phase }, { on := 7, ground := Ground.phase }, { on := 8, ground := Ground.textOnly Departure.lateStores }, { on := 9, ground := Ground.textOnly Departure.lateStoresUnsure }, { on := 10, ground := Ground.textOnly Departure.lateStoresUnsure }, { on := 11, ground := Ground.phase }, { on := 12, ground := Ground.textOnly Departure.lateStoresUnsure }, { on := 13, ground := Ground.phase }, { on := 14, ground := Ground.textOnly Departure.lateStores }, { on := 15, ground := Ground.textOnly Departure.lateStores }, { on := 16, ground := Ground.textOnly Departure.lateStoresUnsure }, { on := 17, ground := Ground.phase }], guard := none }) (v := .pointer (some ⟨T, 12, none⟩)) rfl (by kernel_rfl) (by kernel_rfl) (by kernel_rfl) rfl (fun _ _ _ h => h) (Or.inl ⟨by rfl, fun w => ?_⟩) hM6.b ?_
                      · go_simp
                      try simp only [Act.put, List.setIfInBounds_toArray, List.set_cons_zero, List.set_cons_succ]
                      have y12 : W6.cell? ⟨T, 12, none⟩ = some (.slice gA v.gv.length gc) := hM6.b.cell 12 (by omega)
                      have y13 : W6.cell? ⟨T, 13, none⟩ = some (.slice tA v.tk.length tc) := hM6.b.cell 13 (by omega)
                      have z12 := hM6.b.froz 12 (by omega)
                      have z13 := hM6.b.froz 13 (by omega)
                      have hlt := hM6.b.lt
                      have HM := Lib.hid (hM6.leaf (q := q) rfl rfl rfl HSF.out rfl rfl rfl rfl rfl rfl)
                      clear hM6
                      refine wpLate_ready (rs := [20]) (by kernel_rfl) (by simp) (AllLate.last (o := { dst := none, op := Op.store 35 (Operand.tmp 103) (Operand.tmp 91), type := 0, pos := "law.go:166", after := #[{ on := 19, ground := Ground.data }, { on := 7, ground := Ground.data }, { on := 17, ground := Ground.chain }, { on := 0, ground := Ground.phase }, { on := 1, ground := Ground.textOnly Departure.lateStores }, { on := 2, ground := Ground.phase }, { on := 3, ground := Ground.phase }, { on := 4, ground := Ground.phase }, { on := 5, ground := Ground.phase }, { on := 6, ground := Ground.phase }, { on := 7, ground := Ground.phase }, { on := 8, ground := Ground.textOnly Departure.lateStores }, { on := 9, ground := Ground.textOnly Departure.lateStoresUnsure }, { on := 10, ground := Ground.textOnly Departure.lateStoresUnsure }, { on := 11, ground := Ground.phase }, { on := 12, ground := Ground.textOnly Departure.lateStoresUnsure }, { on := 13, ground := Ground.phase }, { on := 14, ground := Ground.textOnly Departure.lateStores }, { on := 15, ground := Ground.textOnly Departure.lateStores }, { on := 16, ground := Ground.textOnly Departure.lateStoresUnsure }, { on := 17, ground := Ground.phase }], guard := none }) rfl rfl (fun K hK => ?_))
                      go_simp
                      refine hK.out _ _ ?_
                      clear hK K
                      try simp only [Act.put, List.setIfInBounds_toArray, List.set_cons_zero, List.set_cons_succ]
                      refine wpAny_one (i := 21) (o := { dst := some 104, op := Op.nilCheck (Operand.tmp 85), type := 0, pos := "law.go:166", after := #[{ on := 1, ground := Ground.data }, { on := 0, ground := Ground.phase }, { on := 1, ground := Ground.phase }, { on := 2, ground := Ground.phase }, { on := 3, ground := Ground.phase }, { on := 4, ground := Ground.phase }, { on := 5, ground := Ground.phase }, { on := 6, ground := Ground.phase }, { on := 7, ground := Ground.phase }, { on := 8, ground := Ground.phase }, { on := 9, ground := Ground.phase }, { on := 10, ground := Ground.phase }, { on := 11, ground := Ground.phase }, { on := 12, ground := Ground.phase }, { on := 13, ground := Ground.phase }, { on := 14, ground := Ground.textOnly Departure.lateStores }, { on := 15, ground := Ground.textOnly Departure.lateStores }, { on := 16, ground := Ground.textOnly Departure.lateStoresUnsure }, { on := 17, ground := Ground.phase }, { on := 18, ground := Ground.phase }, { on := 19, ground := Ground.phase }, { on := 20, ground := Ground.phase }], guard := none }) (by kernel_rfl) rfl (fun K hK => ?_)
                      go_simp
                      refine hK.out _ _ ?_
                      clear hK K
                      try simp only [Act.put, List.setIfInBounds_toArray, List.set_cons_zero, List.set_cons_succ]
                      refine wpAny_one (i := 22) (o := { dst := some 105, op := Op.fieldAddr 57 (Operand.tmp 104) 4, type := 0, pos := "law.go:166", after := #[{ on := 21, ground := Ground.data }, { on := 0, ground := Ground.phase }, { on := 1, ground := Ground.phase }, { on := 2, ground := Ground.phase }, { on := 3, ground := Ground.phase }, { on := 4, ground := Ground.phase }, { on := 5, ground := Ground.phase }, { on := 6, ground := Ground.phase }, { on := 7, ground := Ground.phase }, { on := 8, ground := Ground.phase }, { on := 9, ground := Ground.phase }, { on := 10, ground := Ground.phase }, { on := 11, ground := Ground.phase }, { on := 12, ground := Ground.phase }, { on := 13, ground := Ground.phase }, { on := 14, ground := Ground.textOnly Departure.lateStores }, { on := 15, ground := Ground.textOnly Departure.lateStores }, { on := 16, ground := Ground.textOnly Departure.lateStoresUnsure }, { on := 17, ground := Ground.phase }, { on := 18, ground := Ground.phase }, { on := 19, ground := Ground.phase }, { on := 20, ground := Ground.phase }], guard := none }) (by kernel_rfl) rfl (fun K hK => ?_)
                      go_simp
                      refine hK.out _ _ ?_
                      clear hK K
                      try simp only [Act.put, List.setIfInBounds_toArray, List.set_cons_zero, List.set_cons_succ]
                      refine wpAny_one (i := 23) (o := { dst := none, op := Op.store 35 (Operand.tmp 105) (Operand.tmp 97), type := 0, pos := "law.go:166", after := #[{ on := 22, ground := Ground.data }, { on := 13, ground := Ground.data }, { on := 20, ground := Ground.chain }, { on := 0, ground := Ground.phase }, { on := 1, ground := Ground.phase }, { on := 2, ground := Ground.phase }, { on := 3, ground := Ground.phase }, { on := 4, ground := Ground.phase }, { on := 5, ground := Ground.phase }, { on := 6, ground := Ground.phase }, { on := 7, ground := Ground.phase }, { on := 8, ground := Ground.phase }, { on := 9, ground := Ground.phase }, { on := 10, ground := Ground.phase }, { on := 11, ground := Ground.phase }, { on := 12, ground := Ground.phase }, { on := 13, ground := Ground.phase }, { on := 14, ground := Ground.textOnly Departure.lateStores }, { on := 15, ground := Ground.textOnly Departure.lateStores }, { on := 16, ground := Ground.textOnly Departure.lateStoresUnsure }, { on := 17, ground := Ground.phase }, { on := 18, ground := Ground.phase }, { on := 19, ground := Ground.phase }, { on := 20, ground := Ground.phase }], guard := none }) (by kernel_rfl) rfl (fun K hK => ?_)
                      go_simp
                      refine hK.out _ _ ?_
                      clear hK K
                      try simp only [Act.put, List.setIfInBounds_toArray, List.set_cons_zero, List.set_cons_succ]
                      refine wpAny_one (i := 24) (o := { dst := some 6, op := Op.assign (Operand.tmp 101), type := 35, pos := "law.go:166", after := #[{ on := 17, ground := Ground.data }, { on := 23, ground := Ground.chain }, { on := 0, ground := Ground.phase }, { on := 1, ground := Ground.phase }, { on := 2, ground := Ground.phase }, { on := 3, ground := Ground.phase }, { on := 4, ground := Ground.phase }, { on := 5, ground := Ground.phase }, { on := 6, ground := Ground.phase }, { on := 7, ground := Ground.phase }, { on := 8, ground := Ground.phase }, { on := 9, ground := Ground.phase }, { on := 10, ground := Ground.phase }, { on := 11, ground := Ground.phase }, { on := 12, ground := Ground.phase }, { on := 13, ground := Ground.phase }, { on := 14, ground := Ground.phase }, { on := 15, ground := Ground.phase }, { on := 16, ground := Ground.phase }, { on := 17, ground := Ground.phase }, { on := 18, ground := Ground.phase }, { on := 19, ground := Ground.phase }, { on := 20, ground := Ground.phase }, { on := 21, ground := Ground.phase }, { on := 22, ground := Ground.phase }, { on := 23, ground := Ground.phase }], guard := none }) (by kernel_rfl) rfl (fun K hK => ?_)
                      go_simp
                      refine hK.out _ _ ?_
                      clear hK K
                      try simp only [Act.put, List.setIfInBounds_toArray, List.set_cons_zero, List.set_cons_succ]
                      refine wpAny_end (by kernel_rfl) ?_ _
                      go_wp2_with fail
                      go_meet
                      exact HM.out
                    refine AllLate.cons (o := { dst := some 96, op := Op.buildSlice 35 1 #[(0, Operand.const (Value.int IntKind.i64 0))], type := 35, pos := "law.go:166", after := #[], guard := none }) rfl rfl (fun K hK => ?_) AllLate.nil
                    go_simp
                    have hM3 := hM2.alloc1 0 3
                    refine hK.out _ _ hM3.b ?_
                    clear hK K hM2
                    generalize World.alloc _ _ = W3 at hM3 ⊢
                    generalize W2.heap.size = p12 at hM3 ⊢
                    try simp only [Act.put, List.setIfInBounds_toArray, List.set_cons_zero, List.set_cons_succ]
                    refine wpLate_ready (rs := [7]) (by kernel_rfl) (by simp) ?_
                    refine AllLate.cons (o := { dst := some 91, op := Op.call { callee := Callee.builtin Builtin.append, args := #[Operand.tmp 89, Operand.tmp 90], argTypes := #[35, 35] }, type := 35, pos := "law.go:166", after := #[{ on := 5, ground := Ground.data }, { on := 6, ground := Ground.data }], guard := none }) rfl rfl (fun K hK => ?_) AllLate.nil
                    refine hM3.step (i := 0) (by omega) rfl (Operand.tmp 89) (Operand.tmp 90) rfl (v.gv.length) rfl (by rfl) p6 1 (0) (by rfl) (by simp) (by have := hgl'; omega) (fun A4 c4 W4 hM4 _ _ => hK.out _ _ hM4.b ?_)
                    clear hK K hM3
                    try simp only [Act.put, List.setIfInBounds_toArray, List.set_cons_zero, List.set_cons_succ]
                    refine wpLate_ready (rs := [13]) (by kernel_rfl) (by simp) ?_
                    refine AllLate.cons (o := { dst := some 97, op := Op.call { callee := Callee.builtin Builtin.append, args := #[Operand.tmp 95, Operand.tmp 96], argTypes := #[35, 35] }, type := 35, pos := "law.go:166", after := #[{ on := 11, ground := Ground.data }, { on := 12, ground := Ground.data }, { on := 7, ground := Ground.chain }], guard := none }) rfl rfl (fun K hK => ?_) AllLate.nil
                    refine hM4.step (i := 1) (by omega) rfl (Operand.tmp 95) (Operand.tmp 96) rfl (v.tk.length) rfl (by rfl) p12 1 (0) (by rfl) (by simp) (by have := htl'; omega) (fun A5 c5 W5 hM5 _ _ => hK.out _ _ hM5.b ?_)
                    clear hK K hM4
                    try simp only [Act.put, List.setIfInBounds_toArray, List.set_cons_zero, List.set_cons_succ]
                    refine wpLate_ready (rs := [17]) (by kernel_rfl) (by simp) ?_
                    refine AllLate.cons (o := { dst := some 101, op := Op.call { callee := Callee.builtin Builtin.append, args := #[Operand.tmp 98, Operand.tmp 100], argTypes := #[35, 35] }, type := 35, pos := "law.go:166", after := #[{ on := 14, ground := Ground.data }, { on := 16, ground := Ground.data }, { on := 13, ground := Ground.chain }], guard := none }) rfl rfl (fun K hK => ?_) AllLate.nil
                    refine hM5.step (i := 2) (by omega) rfl (Operand.tmp 98) (Operand.tmp 100) rfl (ow.length) (List.length_map _) (by rfl) p16 1 ((q : Int)) (by rfl) (by simp) (by have := hol'; omega) (fun A6 c6 W6 hM6 _ _ => hK.out _ _ hM6.b ?_)
                    clear hK K hM5
                    try simp only [Act.put, List.setIfInBounds_toArray, List.set_cons_zero, List.set_cons_succ]
                    refine wpLate_takeP (i := 18) (oi := { dst := some 102, op := Op.nilCheck (Operand.tmp 84), type := 0, pos := "law.go:166", after := #[{ on := 0, ground := Ground.data }, { on := 0, ground := Ground.phase }, { on := 1, ground := Ground.textOnly Departure.lateStores }, { on := 2, ground := Ground.phase }, { on := 3, ground := Ground.phase }, { on := 4, ground := Ground.phase }, { on := 5, ground := Ground.phase }, { on := 6, ground := Ground.phase }, { on := 7, ground := Ground.phase }, { on := 8, ground := Ground.textOnly Departure.lateStores }, { on := 9, ground := Ground.textOnly Departure.lateStoresUnsure }, { on := 10, ground := Ground.textOnly Departure.lateStoresUnsure }, { on := 11, ground := Ground.phase }, { on := 12, ground := Ground.textOnly Departure.lateStoresUnsure }, { on := 13, ground := Ground.phase }, { on := 14, ground := Ground.textOnly Departure.lateStores }, { on := 15, ground := Ground.textOnly Departure.lateStores }, { on := 16, ground := Ground.textOnly Departure.lateStoresUnsure }, { on := 17, ground := Ground.phase }], guard := none }) (v := .pointer (some ⟨T, 0, none⟩)) rfl (by kernel_rfl) (by kernel_rfl) (by kernel_rfl) rfl (fun _ _ _ h => h) (Or.inl ⟨by rfl, fun w => ?_⟩) hM6.b ?_
                    · go_simp
                    try simp only [Act.put, List.setIfInBounds_toArray, List.set_cons_zero, List.set_cons_succ]
                    refine wpLate_takeP (i := 19) (oi := { dst := some 103, op := Op.fieldAddr 57 (Operand.tmp 102) 3, type := 0, pos := "law.go:166", after := #[{ on := 18, ground := Ground.data }, { on := 0, ground := Ground.phase }, { on := 1, ground := Ground.textOnly Departure.lateStores }, { on := 2, ground := Ground.phase }, { on := 3, ground := Ground.phase }, { on := 4, ground := Ground.phase }, { on := 5, ground := Ground.phase }, { on := 6, ground := Ground.phase }, { on := 7, ground := Ground.phase }, { on := 8, ground := Ground.textOnly Departure.lateStores }, { on := 9, ground := Ground.textOnly Departure.lateStoresUnsure }, { on := 10, ground := Ground.textOnly Departure.lateStoresUnsure }, { on := 11, ground := Ground.phase }, { on := 12, ground := Ground.textOnly Departure.lateStoresUnsure }, { on := 13, ground := Ground.phase }, { on := 14, ground := Ground.textOnly Departure.lateStores }, { on := 15, ground := Ground.textOnly Departure.lateStores }, { on := 16, ground := Ground.textOnly Departure.lateStoresUnsure }, { on := 17, ground := Ground.phase }], guard := none }) (v := .pointer (some ⟨T, 12, none⟩)) rfl (by kernel_rfl) (by kernel_rfl) (by kernel_rfl) rfl (fun _ _ _ h => h) (Or.inl ⟨by rfl, fun w => ?_⟩) hM6.b ?_
                    · go_simp
                    try simp only [Act.put, List.setIfInBounds_toArray, List.set_cons_zero, List.set_cons_succ]
                    have y12 : W6.cell? ⟨T, 12, none⟩ = some (.slice gA v.gv.length gc) := hM6.b.cell 12 (by omega)
                    have y13 : W6.cell? ⟨T, 13, none⟩ = some (.slice tA v.tk.length tc) := hM6.b.cell 13 (by omega)
                    have z12 := hM6.b.froz 12 (by omega)
                    have z13 := hM6.b.froz 13 (by omega)
                    have hlt := hM6.b.lt
                    have HM := Lib.hid (hM6.leaf (q := q) rfl rfl rfl HSF.out rfl rfl rfl rfl rfl rfl)
                    clear hM6
                    refine wpLate_ready (rs := [20]) (by kernel_rfl) (by simp) (AllLate.last (o := { dst := none, op := Op.store 35 (Operand.tmp 103) (Operand.tmp 91), type := 0, pos := "law.go:166", after := #[{ on := 19, ground := Ground.data }, { on := 7, ground := Ground.data }, { on := 17, ground := Ground.chain }, { on := 0, ground := Ground.phase }, { on := 1, ground := Ground.textOnly Departure.lateStores }, { on := 2, ground := Ground.phase }, { on := 3, ground := Ground.phase }, { on := 4, ground := Ground.phase }, { on := 5, ground := Ground.phase }, { on := 6, ground := Ground.phase }, { on := 7, ground := Ground.phase }, { on := 8, ground := Ground.textOnly Departure.lateStores }, { on := 9, ground := Ground.textOnly Departure.lateStoresUnsure }, { on := 10, ground := Ground.textOnly Departure.lateStoresUnsure }, { on := 11, ground := Ground.phase }, { on := 12, ground := Ground.textOnly Departure.lateStoresUnsure }, { on := 13, ground := Ground.phase }, { on := 14, ground := Ground.textOnly Departure.lateStores }, { on := 15, ground := Ground.textOnly Departure.lateStores }, { on := 16, ground := Ground.textOnly Departure.lateStoresUnsure }, { on := 17, ground := Ground.phase }], guard := none }) rfl rfl (fun K hK => ?_))
                    go_simp
                    refine hK.out _ _ ?_
                    clear hK K
                    try simp only [Act.put, List.setIfInBounds_toArray, List.set_cons_zero, List.set_cons_succ]
                    refine wpAny_one (i := 21) (o := { dst := some 104, op := Op.nilCheck (Operand.tmp 85), type := 0, pos := "law.go:166", after := #[{ on := 1, ground := Ground.data }, { on := 0, ground := Ground.phase }, { on := 1, ground := Ground.phase }, { on := 2, ground := Ground.phase }, { on := 3, ground := Ground.phase }, { on := 4, ground := Ground.phase }, { on := 5, ground := Ground.phase }, { on := 6, ground := Ground.phase }, { on := 7, ground := Ground.phase }, { on := 8, ground := Ground.phase }, { on := 9, ground := Ground.phase }, { on := 10, ground := Ground.phase }, { on := 11, ground := Ground.phase }, { on := 12, ground := Ground.phase }, { on := 13, ground := Ground.phase }, { on := 14, ground := Ground.textOnly Departure.lateStores }, { on := 15, ground := Ground.textOnly Departure.lateStores }, { on := 16, ground := Ground.textOnly Departure.lateStoresUnsure }, { on := 17, ground := Ground.phase }, { on := 18, ground := Ground.phase }, { on := 19, ground := Ground.phase }, { on := 20, ground := Ground.phase }], guard := none }) (by kernel_rfl) rfl (fun K hK => ?_)
                    go_simp
                    refine hK.out _ _ ?_
                    clear hK K
                    try simp only [Act.put, List.setIfInBounds_toArray, List.set_cons_zero, List.set_cons_succ]
                    refine wpAny_one (i := 22) (o := { dst := some 105, op := Op.fieldAddr 57 (Operand.tmp 104) 4, type := 0, pos := "law.go:166", after := #[{ on := 21, ground := Ground.data }, { on := 0, ground := Ground.phase }, { on := 1, ground := Ground.phase }, { on := 2, ground := Ground.phase }, { on := 3, ground := Ground.phase }, { on := 4, ground := Ground.phase }, { on := 5, ground := Ground.phase }, { on := 6, ground := Ground.phase }, { on := 7, ground := Ground.phase }, { on := 8, ground := Ground.phase }, { on := 9, ground := Ground.phase }, { on := 10, ground := Ground.phase }, { on := 11, ground := Ground.phase }, { on := 12, ground := Ground.phase }, { on := 13, ground := Ground.phase }, { on := 14, ground := Ground.textOnly Departure.lateStores }, { on := 15, ground := Ground.textOnly Departure.lateStores }, { on := 16, ground := Ground.textOnly Departure.lateStoresUnsure }, { on := 17, ground := Ground.phase }, { on := 18, ground := Ground.phase }, { on := 19, ground := Ground.phase }, { on := 20, ground := Ground.phase }], guard := none }) (by kernel_rfl) rfl (fun K hK => ?_)
                    go_simp
                    refine hK.out _ _ ?_
                    clear hK K
                    try simp only [Act.put, List.setIfInBounds_toArray, List.set_cons_zero, List.set_cons_succ]
                    refine wpAny_one (i := 23) (o := { dst := none, op := Op.store 35 (Operand.tmp 105) (Operand.tmp 97), type := 0, pos := "law.go:166", after := #[{ on := 22, ground := Ground.data }, { on := 13, ground := Ground.data }, { on := 20, ground := Ground.chain }, { on := 0, ground := Ground.phase }, { on := 1, ground := Ground.phase }, { on := 2, ground := Ground.phase }, { on := 3, ground := Ground.phase }, { on := 4, ground := Ground.phase }, { on := 5, ground := Ground.phase }, { on := 6, ground := Ground.phase }, { on := 7, ground := Ground.phase }, { on := 8, ground := Ground.phase }, { on := 9, ground := Ground.phase }, { on := 10, ground := Ground.phase }, { on := 11, ground := Ground.phase }, { on := 12, ground := Ground.phase }, { on := 13, ground := Ground.phase }, { on := 14, ground := Ground.textOnly Departure.lateStores }, { on := 15, ground := Ground.textOnly Departure.lateStores }, { on := 16, ground := Ground.textOnly Departure.lateStoresUnsure }, { on := 17, ground := Ground.phase }, { on := 18, ground := Ground.phase }, { on := 19, ground := Ground.phase }, { on := 20, ground := Ground.phase }], guard := none }) (by kernel_rfl) rfl (fun K hK => ?_)
                    go_simp
                    refine hK.out _ _ ?_
                    clear hK K
                    try simp only [Act.put, List.setIfInBounds_toArray, List.set_cons_zero, List.set_cons_succ]
                    refine wpAny_one (i := 24) (o := { dst := some 6, op := Op.assign (Operand.tmp 101), type := 35, pos := "law.go:166", after := #[{ on := 17, ground := Ground.data }, { on := 23, ground := Ground.chain }, { on := 0, ground := Ground.phase }, { on := 1, ground := Ground.phase }, { on := 2, ground := Ground.phase }, { on := 3, ground := Ground.phase }, { on := 4, ground := Ground.phase }, { on := 5, ground := Ground.phase }, { on := 6, ground := Ground.phase }, { on := 7, ground := Ground.phase }, { on := 8, ground := Ground.phase }, { on := 9, ground := Ground.phase }, { on := 10, ground := Ground.phase }, { on := 11, ground := Ground.phase }, { on := 12, ground := Ground.phase }, { on := 13, ground := Ground.phase }, { on := 14, ground := Ground.phase }, { on := 15, ground := Ground.phase }, { on := 16, ground := Ground.phase }, { on := 17, ground := Ground.phase }, { on := 18, ground := Ground.phase }, { on := 19, ground := Ground.phase }, { on := 20, ground := Ground.phase }, { on := 21, ground := Ground.phase }, { on := 22, ground := Ground.phase }, { on := 23, ground := Ground.phase }], guard := none }) (by kernel_rfl) rfl (fun K hK => ?_)
                    go_simp
                    refine hK.out _ _ ?_
                    clear hK K
                    try simp only [Act.put, List.setIfInBounds_toArray, List.set_cons_zero, List.set_cons_succ]
                    refine wpAny_end (by kernel_rfl) ?_ _
                    go_wp2_with fail
                    go_meet
                    exact HM.out
                  refine AllLate.cons (o := { dst := some 96, op := Op.buildSlice 35 1 #[(0, Operand.const (Value.int IntKind.i64 0))], type := 35, pos := "law.go:166", after := #[], guard := none }) rfl rfl (fun K hK => ?_) AllLate.nil
                  go_simp
                  have hM2 := hM1.alloc1 0 3
                  refine hK.out _ _ hM2.b ?_
                  clear hK K hM1
                  generalize World.alloc _ _ = W2 at hM2 ⊢
                  generalize W1.heap.size = p12 at hM2 ⊢
                  try simp only [Act.put, List.setIfInBounds_toArray, List.set_cons_zero, List.set_cons_succ]
                  refine wpLate_ready (rs := [6]) (by kernel_rfl) (by simp) ?_
                  refine AllLate.cons (o := { dst := some 90, op := Op.buildSlice 35 1 #[(0, Operand.const (Value.int IntKind.i64 0))], type := 35, pos := "law.go:166", after := #[], guard := none }) rfl rfl (fun K hK => ?_) AllLate.nil
                  go_simp
                  have hM3 := hM2.alloc1 0 3
                  refine hK.out _ _ hM3.b ?_
                  clear hK K hM2
                  generalize World.alloc _ _ = W3 at hM3 ⊢
                  generalize W2.heap.size = p6 at hM3 ⊢
                  try simp only [Act.put, List.setIfInBounds_toArray, List.set_cons_zero, List.set_cons_succ]
                  refine wpLate_ready (rs := [7]) (by kernel_rfl) (by simp) ?_
                  refine AllLate.cons (o := { dst := some 91, op := Op.call { callee := Callee.builtin Builtin.append, args := #[Operand.tmp 89, Operand.tmp 90], argTypes := #[35, 35] }, type := 35, pos := "law.go:166", after := #[{ on := 5, ground := Ground.data }, { on := 6, ground := Ground.data }], guard := none }) rfl rfl (fun K hK => ?_) AllLate.nil
                  refine hM3.step (i := 0) (by omega) rfl (Operand.tmp 89) (Operand.tmp 90) rfl (v.gv.length) rfl (by rfl) p6 1 (0) (by rfl) (by simp) (by have := hgl'; omega) (fun A4 c4 W4 hM4 _ _ => hK.out _ _ hM4.b ?_)
                  clear hK K hM3
                  try simp only [Act.put, List.setIfInBounds_toArray, List.set_cons_zero, List.set_cons_succ]
                  refine wpLate_ready (rs := [13]) (by kernel_rfl) (by simp) ?_
                  refine AllLate.cons (o := { dst := some 97, op := Op.call { callee := Callee.builtin Builtin.append, args := #[Operand.tmp 95, Operand.tmp 96], argTypes := #[35, 35] }, type := 35, pos := "law.go:166", after := #[{ on := 11, ground := Ground.data }, { on := 12, ground := Ground.data }, { on := 7, ground := Ground.chain }], guard := none }) rfl rfl (fun K hK => ?_) AllLate.nil
                  refine hM4.step (i := 1) (by omega) rfl (Operand.tmp 95) (Operand.tmp 96) rfl (v.tk.length) rfl (by rfl) p12 1 (0) (by rfl) (by simp) (by have := htl'; omega) (fun A5 c5 W5 hM5 _ _ => hK.out _ _ hM5.b ?_)
                  clear hK K hM4
                  try simp only [Act.put, List.setIfInBounds_toArray, List.set_cons_zero, List.set_cons_succ]
                  refine wpLate_ready (rs := [17]) (by kernel_rfl) (by simp) ?_
                  refine AllLate.cons (o := { dst := some 101, op := Op.call { callee := Callee.builtin Builtin.append, args := #[Operand.tmp 98, Operand.tmp 100], argTypes := #[35, 35] }, type := 35, pos := "law.go:166", after := #[{ on := 14, ground := Ground.data }, { on := 16, ground := Ground.data }, { on := 13, ground := Ground.chain }], guard := none }) rfl rfl (fun K hK => ?_) AllLate.nil
                  refine hM5.step (i := 2) (by omega) rfl (Operand.tmp 98) (Operand.tmp 100) rfl (ow.length) (List.length_map _) (by rfl) p16 1 ((q : Int)) (by rfl) (by simp) (by have := hol'; omega) (fun A6 c6 W6 hM6 _ _ => hK.out _ _ hM6.b ?_)
                  clear hK K hM5
                  try simp only [Act.put, List.setIfInBounds_toArray, List.set_cons_zero, List.set_cons_succ]
                  refine wpLate_takeP (i := 18) (oi := { dst := some 102, op := Op.nilCheck (Operand.tmp 84), type := 0, pos := "law.go:166", after := #[{ on := 0, ground := Ground.data }, { on := 0, ground := Ground.phase }, { on := 1, ground := Ground.textOnly Departure.lateStores }, { on := 2, ground := Ground.phase }, { on := 3, ground := Ground.phase }, { on := 4, ground := Ground.phase }, { on := 5, ground := Ground.phase }, { on := 6, ground := Ground.phase }, { on := 7, ground := Ground.phase }, { on := 8, ground := Ground.textOnly Departure.lateStores }, { on := 9, ground := Ground.textOnly Departure.lateStoresUnsure }, { on := 10, ground := Ground.textOnly Departure.lateStoresUnsure }, { on := 11, ground := Ground.phase }, { on := 12, ground := Ground.textOnly Departure.lateStoresUnsure }, { on := 13, ground := Ground.phase }, { on := 14, ground := Ground.textOnly Departure.lateStores }, { on := 15, ground := Ground.textOnly Departure.lateStores }, { on := 16, ground := Ground.textOnly Departure.lateStoresUnsure }, { on := 17, ground := Ground.phase }], guard := none }) (v := .pointer (some ⟨T, 0, none⟩)) rfl (by kernel_rfl) (by kernel_rfl) (by kernel_rfl) rfl (fun _ _ _ h => h) (Or.inl ⟨by rfl, fun w => ?_⟩) hM6.b ?_
                  · go_simp
                  try simp only [Act.put, List.setIfInBounds_toArray, List.set_cons_zero, List.set_cons_succ]
                  refine wpLate_takeP (i := 19) (oi := { dst := some 103, op := Op.fieldAddr 57 (Operand.tmp 102) 3, type := 0, pos := "law.go:166", after := #[{ on := 18, ground := Ground.data }, { on := 0, ground := Ground.phase }, { on := 1, ground := Ground.textOnly Departure.lateStores }, { on := 2, ground := Ground.phase }, { on := 3, ground := Ground.phase }, { on := 4, ground := Ground.phase }, { on := 5, ground := Ground.phase }, { on := 6, ground := Ground.phase }, { on := 7, ground := Ground.phase }, { on := 8, ground := Ground.textOnly Departure.lateStores }, { on := 9, ground := Ground.textOnly Departure.lateStoresUnsure }, { on := 10, ground := Ground.textOnly Departure.lateStoresUnsure }, { on := 11, ground := Ground.phase }, { on := 12, ground := Ground.textOnly Departure.lateStoresUnsure }, { on := 13, ground := Ground.phase }, { on := 14, ground := Ground.textOnly Departure.lateStores }, { on := 15, ground := Ground.textOnly Departure.lateStores }, { on := 16, ground := Ground.textOnly Departure.lateStoresUnsure }, { on := 17, ground := Ground.phase }], guard := none }) (v := .pointer (some ⟨T, 12, none⟩)) rfl (by kernel_rfl) (by kernel_rfl) (by kernel_rfl) rfl (fun _ _ _ h => h) (Or.inl ⟨by rfl, fun w => ?_⟩) hM6.b ?_
                  · go_simp
                  try simp only [Act.put, List.setIfInBounds_toArray, List.set_cons_zero, List.set_cons_succ]
                  have y12 : W6.cell? ⟨T, 12, none⟩ = some (.slice gA v.gv.length gc) := hM6.b.cell 12 (by omega)
                  have y13 : W6.cell? ⟨T, 13, none⟩ = some (.slice tA v.tk.length tc) := hM6.b.cell 13 (by omega)
                  have z12 := hM6.b.froz 12 (by omega)
                  have z13 := hM6.b.froz 13 (by omega)
                  have hlt := hM6.b.lt
                  have HM := Lib.hid (hM6.leaf (q := q) rfl rfl rfl HSF.out rfl rfl rfl rfl rfl rfl)
                  clear hM6
                  refine wpLate_ready (rs := [20]) (by kernel_rfl) (by simp) (AllLate.last (o := { dst := none, op := Op.store 35 (Operand.tmp 103) (Operand.tmp 91), type := 0, pos := "law.go:166", after := #[{ on := 19, ground := Ground.data }, { on := 7, ground := Ground.data }, { on := 17, ground := Ground.chain }, { on := 0, ground := Ground.phase }, { on := 1, ground := Ground.textOnly Departure.lateStores }, { on := 2, ground := Ground.phase }, { on := 3, ground := Ground.phase }, { on := 4, ground := Ground.phase }, { on := 5, ground := Ground.phase }, { on := 6, ground := Ground.phase }, { on := 7, ground := Ground.phase }, { on := 8, ground := Ground.textOnly Departure.lateStores }, { on := 9, ground := Ground.textOnly Departure.lateStoresUnsure }, { on := 10, ground := Ground.textOnly Departure.lateStoresUnsure }, { on := 11, ground := Ground.phase }, { on := 12, ground := Ground.textOnly Departure.lateStoresUnsure }, { on := 13, ground := Ground.phase }, { on := 14, ground := Ground.textOnly Departure.lateStores }, { on := 15, ground := Ground.textOnly Departure.lateStores }, { on := 16, ground := Ground.textOnly Departure.lateStoresUnsure }, { on := 17, ground := Ground.phase }], guard := none }) rfl rfl (fun K hK => ?_))
                  go_simp
                  refine hK.out _ _ ?_
                  clear hK K
                  try simp only [Act.put, List.setIfInBounds_toArray, List.set_cons_zero, List.set_cons_succ]
                  refine wpAny_one (i := 21) (o := { dst := some 104, op := Op.nilCheck (Operand.tmp 85), type := 0, pos := "law.go:166", after := #[{ on := 1, ground := Ground.data }, { on := 0, ground := Ground.phase }, { on := 1, ground := Ground.phase }, { on := 2, ground := Ground.phase }, { on := 3, ground := Ground.phase }, { on := 4, ground := Ground.phase }, { on := 5, ground := Ground.phase }, { on := 6, ground := Ground.phase }, { on := 7, ground := Ground.phase }, { on := 8, ground := Ground.phase }, { on := 9, ground := Ground.phase }, { on := 10, ground := Ground.phase }, { on := 11, ground := Ground.phase }, { on := 12, ground := Ground.phase }, { on := 13, ground := Ground.phase }, { on := 14, ground := Ground.textOnly Departure.lateStores }, { on := 15, ground := Ground.textOnly Departure.lateStores }, { on := 16, ground := Ground.textOnly Departure.lateStoresUnsure }, { on := 17, ground := Ground.phase }, { on := 18, ground := Ground.phase }, { on := 19, ground := Ground.phase }, { on := 20, ground := Ground.phase }], guard := none }) (by kernel_rfl) rfl (fun K hK => ?_)
                  go_simp
                  refine hK.out _ _ ?_
                  clear hK K
                  try simp only [Act.put, List.setIfInBounds_toArray, List.set_cons_zero, List.set_cons_succ]
                  refine wpAny_one (i := 22) (o := { dst := some 105, op := Op.fieldAddr 57 (Operand.tmp 104) 4, type := 0, pos := "law.go:166", after := #[{ on := 21, ground := Ground.data }, { on := 0, ground := Ground.phase }, { on := 1, ground := Ground.phase }, { on := 2, ground := Ground.phase }, { on := 3, ground := Ground.phase }, { on := 4, ground := Ground.phase }, { on := 5, ground := Ground.phase }, { on := 6, ground := Ground.phase }, { on := 7, ground := Ground.phase }, { on := 8, ground := Ground.phase }, { on := 9, ground := Ground.phase }, { on := 10, ground := Ground.phase }, { on := 11, ground := Ground.phase }, { on := 12, ground := Ground.phase }, { on := 13, ground := Ground.phase }, { on := 14, ground := Ground.textOnly Departure.lateStores }, { on := 15, ground := Ground.textOnly Departure.lateStores }, { on := 16, ground := Ground.textOnly Departure.lateStoresUnsure }, { on := 17, ground := Ground.phase }, { on := 18, ground := Ground.phase }, { on := 19, ground := Ground.phase }, { on := 20, ground := Ground.phase }], guard := none }) (by kernel_rfl) rfl (fun K hK => ?_)
                  go_simp
                  refine hK.out _ _ ?_
                  clear hK K
                  try simp only [Act.put, List.setIfInBounds_toArray, List.set_cons_zero, List.set_cons_succ]
                  refine wpAny_one (i := 23) (o := { dst := none, op := Op.store 35 (Operand.tmp 105) (Operand.tmp 97), type := 0, pos := "law.go:166", after := #[{ on := 22, ground := Ground.data }, { on := 13, ground := Ground.data }, { on := 20, ground := Ground.chain }, { on := 0, ground := Ground.phase }, { on := 1, ground := Ground.phase }, { on := 2, ground := Ground.phase }, { on := 3, ground := Ground.phase }, { on := 4, ground := Ground.phase }, { on := 5, ground := Ground.phase }, { on := 6, ground := Ground.phase }, { on := 7, ground := Ground.phase }, { on := 8, ground := Ground.phase }, { on := 9, ground := Ground.phase }, { on := 10, ground := Ground.phase }, { on := 11, ground := Ground.phase }, { on := 12, ground := Ground.phase }, { on := 13, ground := Ground.phase }, { on := 14, ground := Ground.textOnly Departure.lateStores }, { on := 15, ground := Ground.textOnly Departure.lateStores }, { on := 16, ground := Ground.textOnly Departure.lateStoresUnsure }, { on := 17, ground := Ground.phase }, { on := 18, ground := Ground.phase }, { on := 19, ground := Ground.phase }, { on := 20, ground := Ground.phase }], guard := none }) (by kernel_rfl) rfl (fun K hK => ?_)
                  go_simp
                  refine hK.out _ _ ?_
                  clear hK K
                  try simp only [Act.put, List.setIfInBounds_toArray, List.set_cons_zero, List.set_cons_succ]
                  refine wpAny_one (i := 24) (o := { dst := some 6, op := Op.assign (Operand.tmp 101), type := 35, pos := "law.go:166", after := #[{ on := 17, ground := Ground.data }, { on := 23, ground := Ground.chain }, { on := 0, ground := Ground.phase }, { on := 1, ground := Ground.phase }, { on := 2, ground := Ground.phase }, { on := 3, ground := Ground.phase }, { on := 4, ground := Ground.phase }, { on := 5, ground := Ground.phase }, { on := 6, ground := Ground.phase }, { on := 7, ground := Ground.phase }, { on := 8, ground := Ground.phase }, { on := 9, ground := Ground.phase }, { on := 10, ground := Ground.phase }, { on := 11, ground := Ground.phase }, { on := 12, ground := Ground.phase }, { on := 13, ground := Ground.phase }, { on := 14, ground := Ground.phase }, { on := 15, ground := Ground.phase }, { on := 16, ground := Ground.phase }, { on := 17, ground := Ground.phase }, { on := 18, ground := Ground.phase }, { on := 19, ground := Ground.phase }, { on := 20, ground := Ground.phase }, { on := 21, ground := Ground.phase }, { on := 22, ground := Ground.phase }, { on := 23, ground := Ground.phase }], guard := none }) (by kernel_rfl) rfl (fun K hK => ?_)
                  go_simp
                  refine hK.out _ _ ?_
                  clear hK K
                  try simp only [Act.put, List.setIfInBounds_toArray, List.set_cons_zero, List.set_cons_succ]
                  refine wpAny_end (by kernel_rfl) ?_ _
                  go_wp2_with fail
                  go_meet
                  exact HM.out
                case rest =>
                  obtain ⟨X5, gA5, tA5, oA5, gc5, tc5, oc5, rfl, m5⟩ := hcut
                  have M5 := Lib.hid m5
                  clear m5 hM0
                  have HST := Lib.hid (mstep M5.out (i := q) (by omega) hql (by show v.tm ≤ _; omega) (by show (v.gv ++ [0]).length ≤ 1000; rw [List.length_append]; show v.gv.length + 1 ≤ 1000; omega))
                  go_wp2_with fail
                  with_reducible refine HST.out.mono ?_
                  rintro e w6 ⟨rfl, k', s', v', m6, hk6, hl6, ht6, hd6⟩
                  have hnr6 : NoRet s' := by
                    rcases hd6 with ⟨_, h0⟩ | ⟨rfl, _⟩
                    · rw [EpV.wk_nx] at h0; cases h0
                    · exact NoRet.step (fun j t hj hne => by rw [EpV.wk_nx' _ _ _ hne]; exact HB.out.1 j t hj)
                  have hl7 : v'.gv.length = v.gv.length + 1 := by rw [hl6]; show (v.gv ++ [0]).length = _; rw [List.length_append]; rfl
                  replace ht6 : v'.tm ≤ v.tm + 1 := ht6
                  have HE : Hid (EsI w x T n (.slice oA5 (ow.length + 1) oc5) (.int .i64 ((i : Int) + 1)) w6) := Lib.hid ⟨i + 1, k', X5, s', v', ow ++ [q], gA5, tA5, oA5, gc5, tc5, oc5, by omega, by omega, by go_num, by rw [List.length_append]; rfl, m6, hnr6, by omega, by omega, by omega⟩
                  clear m6 hnr6 hd6 HST hl6 hl7
                  go_wp2
                  go_roundw
                  case rel => exact HE.out
                  case measure => simp [intOf]; omega
              · have hoB : ((o : Int) == 3) = false := beq_eq_false_iff_ne.2 (by omega)
                have HE5 := Lib.hid ((S1.out.start HB.out.1 hql ho1 ho5 ho3 HCK.out _ h5 f5).below (Below.refl _ _).drew)
                have HE6 := Lib.hid ((S1.out.start HB.out.1 hql ho1 ho5 ho3 HCK.out _ h6 f6).below (Below.refl _ _).drew)
                have HNR := Lib.hid (S1.out.sf.start HB.out.1 hql ho1 ho5 ho3 HCK.out (v.gv.length : Nat)).2
                clear c4 f4 h4 ff4 h5 f5 h6 f6 HST y12
                go_wp2_with fail
                go_region
                all_goals
                  go_wp2_with fail
                  go_roundw
                  case rel => first | exact ⟨i + 1, k, X, _, _, ow, gA, tA, oA, gc, tc, oc, by omega, by omega, by go_num, rfl, HE5.out, HNR.out, by omega, by show v.tm ≤ _; omega, by show v.gv.length ≤ _; omega⟩ | exact ⟨i + 1, k, X, _, _, ow, gA, tA, oA, gc, tc, oc, by omega, by omega, by go_num, rfl, HE6.out, HNR.out, by omega, by show v.tm ≤ _; omega, by show v.gv.length ≤ _; omega⟩
                  case measure => simp [intOf]; omega
            · have hst := estartN S1.out.h.c q hql o (v.gv.length : Nat) ho1 ho5 hck
              have hce : (((checkE (s.wk q) o : Nat) : Int) != 0) = true := bne_iff_ne.2 (by omega)
              have HST := Lib.hid hst
              clear hst hck
              generalize ((checkE (s.wk q) o : Nat) : Int) = ce at *
              go_wp2_with fail
              with_reducible refine HST.out.mono ?_
              rintro e w4 ⟨rfl, c4, f4⟩
              have HE : Hid (EsI w x T n (.slice oA ow.length oc) (.int .i64 ((i : Int) + 1)) w4) := Lib.hid ⟨i + 1, k, X, s, v, ow, gA, tA, oA, gc, tc, oc, by omega, by omega, by go_num, rfl, ⟨S1.out.h.call c4 f4, S1.out.o.frx (f4.weak (fun y hy => (S1.out.ap y hy).1)) (fun y hy => hy), S1.out.ap, S1.out.sf⟩, HB.out.1, by omega, by omega, by omega⟩
              clear c4 f4 HST
              go_wp2
              go_roundw
              case rel => exact HE.out
              case measure => simp [intOf]; omega
        · have h3' : (400 : Int) ≤ (i : Int) := by omega
          have HE := Lib.hid (show EsL w x T (.slice oA ow.length oc) (wr.alloc (.cells #[.int .i64 who, .int .u8 (op : Int), .int .i64 thing] 32)) from ⟨k, X, s, v, ow, gA, tA, oA, gc, tc, oc, rfl, S1.out, HB.out.1, by omega, by omega, by omega⟩)
          clear HB S1
          go_wp2_with fail
          go_meet
          exact HE.out
      · obtain rfl : i = n := by omega
        have j1 : ¬ (i : Int) < (i : Int) := by omega
        have HE := Lib.hid (show EsL w x T (.slice oA ow.length oc) wr from ⟨k, X, s, v, ow, gA, tA, oA, gc, tc, oc, rfl, hs, hnr, by omega, by omega, by omega⟩)
        clear hs hnr
        go_wp2_with fail
        go_meet
        exact HE.out
  case rest =>
    obtain ⟨k, X, s, v, ow, gA, tA, oA, gc, tc, oc, rfl, m0, hnr, hk, htm, hgl⟩ := hcut
    have MM := Lib.hid (And.intro m0 (And.intro hnr (And.intro hk (And.intro htm hgl))))
    clear m0 hnr hk htm hgl M0
    go_wp2_with fail
    go_loopw [112] (fun jv wr => EsJ w x T ow oA oc jv wr) (fun jv _ => 4 - (intOf jv).toNat)
    case atStart =>
      obtain ⟨m0, hnr, hk, htm, hgl⟩ := MM.out
      exact ⟨0, k, X, s, v, gA, tA, gc, tc, by omega, rfl, m0, hnr, fun m hm => absurd hm (Nat.not_lt_zero _), by omega, by omega, hgl⟩
    case round =>
      obtain ⟨j, k2, X2, s2, v2, gA2, tA2, gc2, tc2, hj4, rfl, hs, hnr, hdn, hk, htm, hgl⟩ := hrel
      clear MM
      rcases Nat.lt_or_ge j 4 with hj | hj
      · have j1 : (j : Int) < 4 := by omega
        have MJ := Lib.hid (And.intro hs (And.intro hnr hdn))
        clear hs hnr hdn
        go_wp2_with fail
        go_loopw [12] (fun nv wr => EsK w x T ow oA oc j nv wr) (fun nv _ => 8 - (intOf nv).toNat)
        case atStart =>
          obtain ⟨hs, hnr, hdn⟩ := MJ.out
          exact ⟨0, k2, X2, s2, v2, gA2, tA2, gc2, tc2, rfl, by have := remE_le s2 j; omega, hs, hnr, hdn, by omega, by omega, hgl⟩
        case round =>
          obtain ⟨n', k3, X3, s3, v3, gA3, tA3, gc3, tc3, rfl, hr7, hs3, hnr3, hdn3, hk3, htm3, hgl3⟩ := hrel
          clear MJ
          have MK := Lib.hid (And.intro hs3 (And.intro hnr3 hdn3))
          have HP := ependC hs3.h.c j hj
          rcases hp : isEN (s3.wk j).nx with _ | _
          · rw [hp] at HP
            have HPH := Lib.hid HP
            have HNX := Lib.hid (en_none hp)
            clear HP hs3 hnr3 hdn3 hp
            by_cases hpin : (s3.wk j).pin = 0
            · have HPN := Lib.hid (epinC MK.out.1.h.c j hj false (by rw [hpin]; rfl))
              have HPZ := Lib.hid hpin
              clear hpin
              go_wp2_with fail
              with_reducible refine HPH.out.mono ?_
              rintro e w4 ⟨rfl, hw⟩
              subst hw
              go_wp2_with fail
              with_reducible refine HPN.out.mono ?_
              rintro e w5 ⟨rfl, hw⟩
              subst hw
              go_wp2
              go_roundw
              case rel => exact ⟨j + 1, k3, X3, s3, v3, gA3, tA3, gc3, tc3, by omega, by go_num, MK.out.1, MK.out.2.1, MK.out.2.2.up HNX.out HPZ.out, by omega, by omega, hgl3⟩
              case measure => simp [intOf]; omega
            · have HPN := Lib.hid (epinC MK.out.1.h.c j hj true (bne_iff_ne.2 hpin))
              have HST : Hid (Calls Try.prog 16 #[PV x, IV j, .int .u8 2, .int .i64 0] wr _) := Lib.hid (estartC MK.out.1.h.c j hj 2 0 (by omega) (by omega) (start2 HNX.out hpin))
              have HCK := Lib.hid (start2 HNX.out hpin)
              clear hpin
              go_wp2_with fail
              with_reducible refine HPH.out.mono ?_
              rintro e w4 ⟨rfl, hw⟩
              subst hw
              go_wp2_with fail
              with_reducible refine HPN.out.mono ?_
              rintro e w5 ⟨rfl, hw⟩
              subst hw
              go_wp2_with fail
              with_reducible refine HST.out.mono ?_
              rintro e w4 ⟨rfl, c4, f4⟩
              have h4 := MK.out.1.h.call c4 f4
              have ff4 : FrX w.heap.size (thX oA) _ w4 := f4.weak (fun y hy => (MK.out.1.ap y hy).1)
              have h5 : SfS w ((w4.setCell ⟨T, j, none⟩ (.int .u8 2)).setCell ⟨T, 4 + j, none⟩ (.int .i64 0)) x T k3 X3 _ _ gA3 tA3 gc3 tc3 := (h4.putOp j 2 hj).putBg j 0 hj
              have f5 : FrX w.heap.size (thX oA) _ ((w4.setCell ⟨T, j, none⟩ (.int .u8 2)).setCell ⟨T, 4 + j, none⟩ (.int .i64 0)) := (ff4.trans (h4.frT (Z := thX oA) MK.out.1.ap j (.int .u8 2))).trans ((h4.putOp j 2 hj).frT (Z := thX oA) MK.out.1.ap (4 + j) (.int .i64 0))
              have h6 : SfS w ((w4.setCell ⟨T, 4 + j, none⟩ (.int .i64 0)).setCell ⟨T, j, none⟩ (.int .u8 2)) x T k3 X3 _ _ gA3 tA3 gc3 tc3 := (h4.putBg j 0 hj).putOp j 2 hj
              have f6 : FrX w.heap.size (thX oA) _ ((w4.setCell ⟨T, 4 + j, none⟩ (.int .i64 0)).setCell ⟨T, j, none⟩ (.int .u8 2)) := (ff4.trans (h4.frT (Z := thX oA) MK.out.1.ap (4 + j) (.int .i64 0))).trans ((h4.putBg j 0 hj).frT (Z := thX oA) MK.out.1.ap j (.int .u8 2))
              have u0 := (h4.ops hj).1
              have u1 := (h4.ops hj).2
              have u2 := (h4.bg hj).1
              have u3 := (h4.bg hj).2
              have lT4 := h4.b.lt
              have jq0 : (0 : Int) ≤ (j : Int) := by omega
              have M5 := (MK.out.1.start MK.out.2.1 hj (op := 2) (by omega) (by omega) (by omega) HCK.out 0 h5 f5).below (Below.refl _ _).drew
              have M6 := (MK.out.1.start MK.out.2.1 hj (op := 2) (by omega) (by omega) (by omega) HCK.out 0 h6 f6).below (Below.refl _ _).drew
              have hun : InvE 4 (s3.nx j .unpin) := c4.inv
              have HD := Lib.hid (MK.out.2.2.un hun hj)
              have HNR : Hid (NoRet (stS (s3.nx j .unpin) j)) := Lib.hid (NoRet.step (fun m t hm hne => by rw [EpV.wk_nx' _ _ _ hne]; exact MK.out.2.1 m t hm))
              have HS5 := Lib.hid (mstep M5 (i := j) (by omega) hj (by show v3.tm ≤ _; omega) (by show v3.gv.length ≤ _; omega))
              have HS6 := Lib.hid (mstep M6 (i := j) (by omega) hj (by show v3.tm ≤ _; omega) (by show v3.gv.length ≤ _; omega))
              clear c4 f4 h4 ff4 h5 f5 h6 f6 HST M5 M6 hun HPH HPN
              go_wp2_with fail
              go_region
              all_goals
                go_wp2_with fail
                first | with_reducible refine HS5.out.mono ?_ | with_reducible refine HS6.out.mono ?_
                rintro e w6 ⟨rfl, k', s', v', m6, hk6, hl6, ht6, hd6⟩
                have HE : Hid (EsJ w x T ow oA oc (.int .i64 ((j : Int) + 1)) w6) := by
                  rcases hd6 with ⟨_, h0⟩ | ⟨rfl, _⟩
                  · rw [EpV.wk_nx] at h0; cases h0
                  · exact Lib.hid ⟨j + 1, k', X3, _, v', gA3, tA3, gc3, tc3, by omega, by go_num, m6, HNR.out, HD.out, by omega, by have : v'.tm ≤ v3.tm + 1 := ht6; omega, by have : v'.gv.length = v3.gv.length := hl6; omega⟩
                clear m6 hk6 hl6 ht6 hd6 HS5 HS6
                go_wp2
                go_roundw
                case rel => exact HE.out
                case measure => simp [intOf]; omega
          · rw [hp] at HP
            have HPH := Lib.hid HP
            have HST := Lib.hid (mstep hs3 (i := j) (by omega) hj (by omega) (by omega))
            have hrem := remE_step hs3.h.c.inv hj hp
            have n20 : ¬ (20 : Int) < (n' : Int) := by omega
            have HPT := Lib.hid hp
            clear HP hs3 hnr3 hdn3 hp
            go_wp2_with fail
            with_reducible refine HPH.out.mono ?_
            rintro e w4 ⟨rfl, hw⟩
            subst hw
            go_wp2_with fail
            with_reducible refine HST.out.mono ?_
            rintro e w5 ⟨rfl, k', s', v', m5, hk5, hl5, ht5, hd5⟩
            have HE : Hid (EsK w x T ow oA oc j (.int .i64 ((n' : Int) + 1)) w5) := by
              have hn5 := MK.out.2.1.of hd5
              rcases hd5 with ⟨_, h0⟩ | ⟨rfl, _⟩
              · rw [HPT.out] at h0; cases h0
              · exact Lib.hid ⟨n' + 1, k', X3, _, v', gA3, tA3, gc3, tc3, by go_num, by omega, m5, hn5, MK.out.2.2.st, by omega, by omega, by omega⟩
            clear m5 hk5 hl5 ht5 hd5 HST
            go_wp2
            go_roundw
            case rel => exact HE.out
            case measure => simp [intOf]; omega
      · obtain rfl : j = 4 := by omega
        have j1 : ¬ (((4 : Nat) : Int)) < 4 := by omega
        have HT := Lib.hid (hs.tl hnr hdn hgl)
        clear hs hnr hdn
        go_wp2_with fail
        go_loopw [152] (fun cv wr => EsA w x T ow oA oc cv wr) (fun cv _ => 3 - (intOf cv).toNat)
        case atStart => exact ⟨0, k2, X2, s2, v2, gA2, tA2, gc2, tc2, by omega, rfl, HT.out, by omega⟩
        case round =>
          obtain ⟨c, k3, X3, s3, v3, gA3, tA3, gc3, tc3, hc3, rfl, ht, hk3⟩ := hrel
          clear HT
          have HT := Lib.hid ht
          rcases Nat.lt_or_ge c 3 with hc | hc
          · have c1 : (c : Int) < 3 := by omega
            have HR : Hid (Calls Try.prog 31 #[PV x, .int .i64 0, .int .u8 4, .int .i64 0] wr _) := Lib.hid (erunC ht.h.c (by omega) 0 (by omega) 4 0 (by omega) (by omega) (start45 (ht.nx 0 (by omega)) (by omega)))
            clear ht
            go_wp2_with fail
            with_reducible refine HR.out.mono ?_
            rintro e w5 ⟨A, cc, q, s', k', rfl, c5, hk5, f5, o5, ff5⟩
            obtain ⟨t5, rfl⟩ := HT.out.adv (c5.weak (fun y hy => List.mem_append_right _ hy)) ff5 f5
            have HT5 := Lib.hid t5
            have hne : ¬ ((s3.E + 1 : Nat) : Int) = 0 := by omega
            clear c5 f5 o5 ff5 t5 HR
            generalize ((s3.E + 1 : Nat) : Int) = zz at *
            dsimp only [List.length_nil]
            have HE : Hid (EsA w x T ow oA oc (.int .i64 ((c : Int) + 1)) (w5.alloc (.cells #[.bool true, .int .i64 0, .int .i64 zz, .slice A 0 cc] 37))) := Lib.hid ⟨c + 1, k', X3, s', v3, gA3, tA3, gc3, tc3, by omega, by go_num, HT5.out.below ((Below.refl _ _).alloc (Nat.le_refl _) _), by omega⟩
            go_wp2_with fail
            go_roundw
            case rel => exact HE.out
            case measure => simp [intOf]; omega
          · obtain rfl : c = 3 := by omega
            have c1 : ¬ (((3 : Nat) : Int)) < 3 := by omega
            clear ht
            obtain ⟨i0, hi0, hz0, hz1, hz2⟩ := info_parts int_info
            go_wp2_with (refine wpList_make_row _ rfl _ _ 35 rfl 3 i0 (.int .i64 0) Try.underlying35 hi0 hz0 hz1 rfl .i64 .i64 4 rfl rfl (by rw [hz2]; omega) (by omega) ?_)
            rw [made_eq]
            have HL := Lib.hid (HT.out.lf.to (lfE0 v3 ow))
            generalize wr.alloc (.cells (List.replicate 4 (.int .i64 0)).toArray 3) = w6 at *
            clear hi0 hz0 hz1 hz2 HT
            generalize wr.heap.size = L at *
            go_wp2
            go_loopw [175] (fun iv wr => ∃ m : Nat, m ≤ ow.length ∧ iv = .int .i64 (m : Int) ∧ LfS w wr x T L k3 (L :: X3) s3 v3 ow gA3 tA3 oA gc3 tc3 oc 0 3 (lfE v3 ow m)) (fun iv _ => ow.length - (intOf iv).toNat)
            case atStart => exact ⟨0, Nat.zero_le _, rfl, HL.out⟩
            case round =>
              obtain ⟨m, hm, rfl, hl⟩ := hrel
              clear HL
              have HL := Lib.hid hl
              rcases Nat.lt_or_ge m ow.length with hn | hn
              · have l1 : (m : Int) < (ow.length : Int) := by omega
                have l0 : (0 : Int) ≤ (m : Int) := by omega
                obtain ⟨ob, oo, rfl, hob, q0⟩ := own_cell hl.t.o hn
                have hmt : m < v3.tk.length := by have := hl.t.lt; omega
                obtain ⟨tb, tt, rfl, htb, q1⟩ := tk_cell hl.t.h.t hmt
                have y13 := hl.t.h.tk.1
                have lT := hl.t.h.b.lt
                have l2 : (m : Int) < (v3.tk.length : Int) := by omega
                have hle4 := hl.t.le
                by_cases ht0 : v3.tk.getD m 0 = 0
                · have hq4 := hl.t.own m hn ht0
                  have z0 := hl.b.cell (ow.getD m 9) hq4
                  have z1 := hl.b.froz (ow.getD m 9) hq4
                  have lL := hl.b.lt
                  have hu : lfE v3 ow m (ow.getD m 9) ≤ m := leftE_le _ _ _ _
                  have P1 := (hl.put (ow.getD m 9) (lfE v3 ow m (ow.getD m 9) + 1) hq4).to (lfE_yes ht0 rfl)
                  have ec : ((lfE v3 ow m (ow.getD m 9) + 1 : Nat) : Int) = (lfE v3 ow m (ow.getD m 9) : Int) + 1 := by omega
                  rw [ec] at P1
                  rw [ht0] at q1
                  have HP1 := Lib.hid P1
                  clear P1 ec hl ht0 HL
                  generalize ow.getD m 9 = q at *
                  replace z0 : wr.cell? ⟨L, q, none⟩ = some (.int .i64 ((lfE v3 ow m q : Nat) : Int)) := z0
                  generalize lfE v3 ow m q = u at *
                  have jq0 : (0 : Int) ≤ (q : Int) := by omega
                  have jq4 : (q : Int) < 4 := by omega
                  go_wp2_with fail
                  go_roundw
                  case rel => exact ⟨m + 1, by omega, by go_num, HP1.out⟩
                  case measure => simp [intOf]; omega
                · have hnz : (v3.tk.getD m 0 == 0) = false := beq_eq_false_iff_ne.2 ht0
                  have HP1 := Lib.hid (hl.to (lfE_no ht0))
                  clear hl HL
                  generalize v3.tk.getD m 0 = tz at *
                  go_wp2_with fail
                  go_roundw
                  case rel => exact ⟨m + 1, by omega, by go_num, HP1.out⟩
                  case measure => simp [intOf]; omega
              · obtain rfl : m = ow.length := by omega
                have l1 : ¬ (ow.length : Int) < (ow.length : Int) := by omega
                clear hl
                go_wp2_with fail
                go_loopw [195] (fun cv wr => EsC4 w x T L v3 ow gA3 tA3 oA gc3 tc3 oc cv wr) (fun cv _ => 4 - (intOf cv).toNat)
                case atStart => exact ⟨0, k3, L :: X3, s3, by omega, rfl, HL.out, by omega⟩
                case round =>
                  obtain ⟨c, k5, X5, s5, hc5, rfl, hl, hk5⟩ := hrel
                  clear HL
                  have HL := Lib.hid hl
                  rcases Nat.lt_or_ge c 4 with hc6 | hc6
                  · have c1 : (c : Int) < 4 := by omega
                    have HR : Hid (Calls Try.prog 31 #[PV x, IV c, .int .u8 5, .int .i64 0] wr _) := Lib.hid (erunC hl.t.h.c (by omega) c hc6 5 0 (by omega) (by omega) (start45 (hl.t.nx c hc6) (by omega)))
                    clear hl
                    go_wp2_with fail
                    with_reducible refine HR.out.mono ?_
                    rintro e w5 ⟨A, cc, q, s', k', rfl, c5, hk5', f5, o5, ff5⟩
                    obtain ⟨t5, qe, qd, ql, qg⟩ := HL.out.t.col hc6 (c5.weak (fun y hy => List.mem_append_right _ hy)) ff5 f5
                    have L5 := Lib.hid (HL.out.call t5 ff5)
                    have QG := Lib.hid qg
                    have z0 := L5.out.b.cell c hc6
                    clear c5 f5 o5 ff5 t5 HR qg HL
                    obtain ⟨q1, q2, q3, q4⟩ := q
                    simp only at qe qd ql
                    subst qe qd
                    simp only [ql]
                    replace z0 : w5.cell? ⟨L, c, none⟩ = some (.int .i64 ((leftE v3.tk ow c ow.length : Nat) : Int)) := z0
                    clear ql z0
                    have HM0 : Hid (lfE v3 ow ow.length c = leftE v3.tk ow c ow.length) := Lib.hid rfl
                    generalize hmm : leftE v3.tk ow c ow.length = m at *
                    have HM : Hid (lfE v3 ow ow.length c = m) := Lib.hid (HM0.out.trans rfl)
                    clear hmm HM0
                    have jq0 : (0 : Int) ≤ (c : Int) := by omega
                    have KR := BlkL.new w5 [.bool true, .int .i64 0, .int .i64 q3, .slice A m cc] 37
                    have L6 := Lib.hid (L5.out.below ((Below.refl w5.heap.size w5).alloc (Nat.le_refl _) (.cells #[.bool true, .int .i64 0, .int .i64 q3, .slice A m cc] 37)))
                    have z0 := L6.out.b.cell c hc6
                    replace z0 : (w5.alloc (.cells #[.bool true, .int .i64 0, .int .i64 q3, .slice A m cc] 37)).cell? ⟨L, c, none⟩ = some (.int .i64 ((lfE v3 ow ow.length c : Nat) : Int)) := z0
                    have e5 : lfE v3 ow ow.length c = m := HM.out
                    rw [e5] at z0
                    have r1 := KR.cell 1 _ rfl
                    have r3 := KR.cell 3 _ rfl
                    have lR := KR.lt
                    have lL6 := L6.out.b.lt
                    have HHD := Lib.hid (eheld0 L6.out.t.h.c.drew c hc6 QG.out)
                    clear KR e5 L5
                    go_wp2_with fail
                    generalize w5.alloc (.cells #[.bool true, .int .i64 0, .int .i64 q3, .slice A m cc] 37) = w6 at *
                    generalize w5.heap.size = R at *
                    go_region_held3 (fun w' => w'.cell? ⟨R, 1, none⟩ = some (.int .i64 0) ∧ w'.cell? ⟨R, 3, none⟩ = some (.slice A m cc) ∧ w'.cell? ⟨L, c, none⟩ = some (.int .i64 (m : Int))) (go_keep)
                      (first
                      | ((with_reducible refine HHD.out.mono ?_); rintro e w9 ⟨A9, c9, rfl, b9⟩; have n1 := (b9.cell (p := ⟨R, 1, none⟩) lR).trans r1; have n3 := (b9.cell (p := ⟨R, 3, none⟩) lR).trans r3; have n5 := (b9.cell (p := ⟨L, c, none⟩) lL6).trans z0; have HB9 := Lib.hid b9; clear b9))
                    have HE : Hid (EsC4 w x T L v3 ow gA3 tA3 oA gc3 tc3 oc (.int .i64 ((c : Int) + 1)) w9) := Lib.hid ⟨c + 1, k', X5, s', by omega, by go_num, (L6.out.below (Below.refl _ _).drew).below HB9.out, by omega⟩
                    clear n1 n3 n5 z0 r1 r3
                    go_wp2
                    go_roundw
                    case rel => exact HE.out
                    case measure => simp [intOf]; omega
                  · obtain rfl : c = 4 := by omega
                    have c1 : ¬ (((4 : Nat) : Int)) < 4 := by omega
                    clear hl
                    have HB := Lib.hid HL.out.t.h.c.bel
                    clear HL
                    go_wp2_with fail
                    go_ret
                    exact ⟨rfl, HB.out⟩
end Go.Proofs.Ytpjgpiiibgogeaa
